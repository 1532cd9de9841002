"""The examples of the document, as they are written there."""

import unittest

from lookpast import calls, errors, states
from tests import samples

EXAMPLES = """
    >>> [is_state((1, 2, 0)), is_state((1, 3))]
    [True, False]
    >>> [way(mixed, 3), way(ring, 0)]
    [[2, 0, 1], [1, 2, 0]]
    >>> [person_after(mixed, 3, 4), person_after(mixed, 3, 0)]
    [0, 3]
    >>> [rings((1, 0, 2)), ring_of(mixed, 3)]
    [[(0, 1), (2,)], (0, 1)]
    >>> [height(mixed, 3), height(mixed, 1)]
    [2, 0]
    >>> components((0, 0, 2))
    [(0, 1), (2,)]
    >>> called(line, 3)
    (0, 0, 1, 1)
    >>> [called_all(line, [3, 3]), called_all(ring, [0])]
    [(0, 0, 1, 0), (2, 2, 0)]
    >>> states_along(line, [3, 1])
    [(0, 0, 1, 2), (0, 0, 1, 1), (0, 0, 1, 1)]
    >>> idle_calls(line, [3, 1])
    [1]
"""

PROMPT = ">>> "


def examples():
    """Pairs of an expression and the line that it must show."""
    lines = [row.strip() for row in EXAMPLES.strip().splitlines()]
    for shown, expected in zip(lines[::2], lines[1::2], strict=True):
        assert shown.startswith(PROMPT), shown
        yield shown.removeprefix(PROMPT), expected


def names():
    known = {"ring": samples.RING, "line": samples.LINE, "mixed": samples.MIXED}
    for module in (states, calls):
        known.update(vars(module))
    return known


class Examples(unittest.TestCase):
    def test_state_names(self):
        self.assertEqual(samples.RING, (1, 2, 0))
        self.assertEqual(samples.LINE, (0, 0, 1, 2))
        self.assertEqual(samples.MIXED, (1, 0, 0, 2))

    def test_examples(self):
        for shown, expected in examples():
            with self.subTest(shown):
                self.assertEqual(repr(eval(shown, names())), expected)

    def test_number_of_examples(self):
        self.assertEqual(len(list(examples())), 10)


class Names(unittest.TestCase):
    def test_all_functions_of_the_points_exist(self):
        wanted = {
            states: "is_state way person_after rings ring_of height components",
            calls: "called called_all states_along idle_calls",
            errors: "NoPerson NoNumber NoDeed OtherSize NoRoot MissingRoot NotKin NotPast BadDeed BadText"
            " BadLine Unreachable NoCommon Denied IsRoot TooMany",
        }
        for module, listed in wanted.items():
            for name in listed.split():
                self.assertTrue(callable(getattr(module, name, None)), name)


if __name__ == "__main__":
    unittest.main()
