"""What several test files check in the same way."""

import unittest

from lookpast import errors


class ErrorCase(unittest.TestCase):
    def check_raises(self, error, function, *arguments, **named):
        """Check that exactly this error is raised, with the same value in each of its attributes."""
        with self.assertRaises(Exception) as caught:
            function(*arguments, **named)
        self.assertIs(type(caught.exception), type(error))
        self.assertEqual(vars(caught.exception), vars(error))

    def check_no_person(self, person, function, *arguments):
        self.check_raises(errors.NoPerson(person), function, *arguments)
