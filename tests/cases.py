"""What several test files check in the same way."""

import unittest

from lookpast.errors import NoPerson


class PersonCase(unittest.TestCase):
    def check_no_person(self, person, function, *arguments):
        with self.assertRaises(NoPerson) as caught:
            function(*arguments)
        self.assertEqual(caught.exception.person, person)
