"""The examples of the document, as they are written there."""

import unittest

from lookpast import (
    calls, circle, common, desk, errors, films, futures, kin, pasts, people, reach, repeats, rests, small, states, texts,
    wishes,
)
from tests import samples, test_conventions

EXAMPLES = {
    4: """
    >>> [is_state((1, 2, 0)), is_state((1, 3))]
    [True, False]
    >>> [way(mixed, 3), way(ring, 0)]
    [[2, 0, 1], [1, 2, 0]]
    >>> [person_after(mixed, 3, 4), person_after(mixed, 3, 0)]
    [0, 3]
    >>> [rings((1, 0, 2)), ring_of(mixed, 3)]
    [[(0, 1), (2,)], (0, 1)]
    >>> [height(mixed, 3), height(mixed, 1)]
    [2, 0]
    >>> components((0, 0, 2))
    [(0, 1), (2,)]
""",
    5: """
    >>> called(line, 3)
    (0, 0, 1, 1)
    >>> [called_all(line, [3, 3]), called_all(ring, [0])]
    [(0, 0, 1, 0), (2, 2, 0)]
    >>> states_along(line, [3, 1])
    [(0, 0, 1, 2), (0, 0, 1, 1), (0, 0, 1, 1)]
    >>> idle_calls(line, [3, 1])
    [1]
""",
    6: """
    >>> [leads(ring, (1, 0, 0)), leads(ring, (2, 0, 1))]
    [True, False]
    >>> [obstacle(line, (0, 2, 1, 2)), obstacle(ring, (0, 1, 0)), obstacle(ring, (2, 0, 1))]
    [('way', 1), ('rings', 0, 1), ('order', 0, 2, 1)]
    >>> is_obstacle(ring, (2, 0, 1), ("order", 1, 0, 2))
    True
    >>> called_all(ring, word_to(ring, (0, 0, 0)))
    (0, 0, 0)
    >>> word_to(ring, (2, 0, 1))
    raises Unreachable(obstacle=('order', 0, 2, 1))
    >>> [is_word_to(ring, (1, 0, 0), [1]), is_word_to(ring, (1, 0, 0), [0])]
    [True, False]
""",
    7: """
    >>> code_of((1, 0, 0))
    (-1, -1, 0)
    >>> [futures_many(ring), futures_many(mixed), futures_many(line)]
    [16, 18, 6]
    >>> [future_at(ring, 0), future_at(ring, 1), future_at(ring, 15)]
    [(1, 2, 0), (1, 0, 0), (2, 2, 2)]
    >>> number_of(ring, (1, 0, 0))
    1
""",
    8: """
    >>> [is_at_rest((0, 0, 0)), is_at_rest(line)]
    [True, False]
    >>> rests_many(mixed)
    2
    >>> rest_with(mixed, [1])
    (1, 1, 1, 1)
    >>> rest_with(mixed, [2])
    raises NoRoot(person=2)
    >>> fewest_to_rest(mixed, [1])
    3
    >>> called_all(mixed, word_to_rest(mixed, [1]))
    (1, 1, 1, 1)
    >>> shows_fewest(mixed, [1], [1, 2, 3])
    True
""",
    9: """
    >>> [are_kin(mixed, (1, 0, 1, 2)), are_kin(ring, (1, 0, 0))]
    [True, False]
    >>> kin_many(mixed)
    2
    >>> [kin_at(mixed, 1), kin_number(mixed, (1, 0, 1, 2))]
    [(1, 0, 1, 2), 1]
    >>> kin_number(ring, (1, 0, 0))
    raises NotKin
""",
    10: """
    >>> [future_bar((0, 0), (1, 1)), future_bar((0, 0, 2), (0, 1, 1)), future_bar(ring, (1, 0, 0))]
    [('rings', 0), ('people', 0), None]
    >>> common_future(ring, (1, 0, 0))
    (0, 0, 0)
    >>> common_future((0, 0), (1, 1))
    raises NoCommon(bar=('rings', 0))
    >>> [past_bar(ring, (2, 0, 1)), past_bar((0, 0), (1, 1))]
    [('order', 0, 1, 2), None]
    >>> common_past((0, 0), (1, 1))
    (1, 0)
""",
    11: """
    >>> [ring_pasts_many((1, 0, 0)), ring_pasts_many(line)]
    [2, 6]
    >>> [ring_past_at((1, 0, 0), 0), ring_past_number((1, 0, 0), (2, 0, 1))]
    [(1, 2, 0), 1]
    >>> [line_pasts_many((0, 0, 0)), line_pasts_many(ring)]
    [2, 0]
    >>> [line_past_at((0, 0, 0), 0), line_past_number((0, 0, 0), (0, 0, 1))]
    [(0, 2, 0), 1]
""",
    12: """
    >>> meets((1, 0, 1), (None, None, 1))
    True
    >>> [wish_obstacle(ring, (2, 0, 1)), wish_obstacle(ring, (0, 1, None)), wish_obstacle(line, (None, 2, None, None))]
    [('order', 0, 2, 1), ('rings', 0, 1), ('way', 1)]
    >>> meets(granted(ring, (None, None, 1)), (None, None, 1))
    True
    >>> [pointers_for(ring, (1, None, 0), 1), pointers_for(ring, (1, None, 2), 1)]
    [[0, 1, 2], [2]]
    >>> forced(ring, (1, None, 2))
    (1, 2, 2)
""",
    13: """
    >>> [repeated((1, 0, 0), [2], 5), repeated((1, 0, 0), [2], 10 ** 12)]
    [(1, 0, 1), (1, 0, 0)]
    >>> [settles((1, 0, 0), [2]), settles(line, [3, 2])]
    [(0, 2), (2, 1)]
    >>> turning((1, 0, 0), [2])
    [2]
    >>> [first_time((1, 0, 0), [2], 2, 1), first_time(line, [3], 3, 2), first_time(line, [], 3, 0)]
    [1, 0, None]
""",
    14: """
    >>> film_gap([(1, 2, 0), (1, 0, 0), (1, 2, 0)])
    1
    >>> film_bar([(1, 2, 0), (1, 0, 0), (1, 2, 0)])
    ('way', 1)
    >>> [callers(ring, (1, 0, 0)), callers((0, 0), (0, 0)), callers(ring, (0, 0, 0))]
    [[1], [0, 1], []]
""",
    15: """
    >>> all_futures((1, 0))
    [(0, 0), (1, 0), (1, 1)]
    >>> [distance(ring, (0, 0, 0)), first_word(ring, (0, 0, 0)), distance((1, 0, 0), ring)]
    [2, [1, 0], None]
    >>> [words_many(ring, (0, 0, 0), 2), words_many((0, 0), (0, 0), 3)]
    [1, 8]
""",
    16: """
    >>> renumbered((0, 0, 1), (2, 1, 0))
    (1, 2, 2)
    >>> bypassed(ring, 1)
    (1, 0)
    >>> joined((1, 0), (0,))
    (1, 0, 2)
    >>> part_of((0, 1, 0), 2)
    (0, 0)
""",
    17: """
    >>> Circle(ring).call(1)
    0
    >>> Circle(line).run([3, 1, 3])
    2
    >>> Circle((1, 0, 0)).repeat([2], 10 ** 12 - 1)
    1
    >>> Circle(ring).become((0, 0, 0))
    2
    >>> Circle(ring).come(1)
    3
    >>> Circle(ring).leave(1)
    1
    >>> Circle(ring).do([("call", 1), ("come",), ("leave", 2)])
    [0, 3, 0]
    >>> Circle(ring).do([("call", 1), ["call", 1]])
    raises BadDeed(at=1)
""",
    18: """
    >>> [repr(Circle(ring)), len(Circle(ring)), Circle(ring) == Circle([1, 2, 0])]
    ['Circle(3 people)', 3, True]
""",
    19: """
    >>> [state_text(ring), word_text([]), wish_text((None, 0))]
    ['1 2 0', '-', '? 0']
    >>> [state_in("1 2 0"), word_in("7 0"), wish_in("? 0")]
    [(1, 2, 0), [7, 0], (None, 0)]
    >>> state_in("1 2 3")
    raises BadText(at=2)
""",
    20: r"""
    >>> answers("1 2 0\ncall 1\nway 2\nleads 1 2 0\nmany\nrest 0\nundo\nnumber 1 0 0\nleave 7")
    ['0', '0 1', 'way 1', '6', '1', 'done', '1', 'refused NoPerson']
""",
}
HOW_MANY = {4: 6, 5: 4, 6: 6, 7: 4, 8: 7, 9: 4, 10: 5, 11: 4, 12: 5, 13: 4, 14: 3, 15: 3, 16: 4, 17: 8, 18: 1, 19: 3, 20: 1}

FUNCTIONS = {
    states: "is_state way person_after rings ring_of height components",
    calls: "called called_all states_along idle_calls",
    reach: "leads obstacle is_obstacle word_to is_word_to",
    futures: "code_of futures_many future_at number_of",
    rests: "is_at_rest rests_many rest_with fewest_to_rest word_to_rest shows_fewest",
    kin: "are_kin kin_many kin_at kin_number",
    common: "future_bar common_future past_bar common_past",
    pasts: "ring_pasts_many ring_past_at ring_past_number line_pasts_many line_past_at line_past_number",
    wishes: "meets wish_obstacle granted pointers_for forced",
    repeats: "repeated settles turning first_time",
    films: "film_gap film_bar callers",
    small: "all_futures distance first_word words_many",
    people: "renumbered bypassed joined part_of",
    texts: "state_text word_text wish_text state_in word_in wish_in",
    desk: "answers",
}

PROMPT = ">>> "


def examples(point):
    """Pairs of an expression and the line that it must show."""
    lines = [row.strip() for row in EXAMPLES[point].strip().splitlines()]
    for shown, expected in zip(lines[::2], lines[1::2], strict=True):
        assert shown.startswith(PROMPT), shown
        yield shown.removeprefix(PROMPT), expected


def names():
    known = {"ring": samples.RING, "line": samples.LINE, "mixed": samples.MIXED, "Circle": circle.Circle}
    for module, listed in FUNCTIONS.items():
        known.update({name: getattr(module, name) for name in listed.split()})
    return known


def shown_error(error):
    """An error as the document shows it, with its attributes."""
    values = ", ".join(f"{name}={value!r}" for name, value in vars(error).items())
    return f"raises {type(error).__name__}" + (f"({values})" if values else "")


def shown_outcome(expression):
    try:
        return repr(eval(expression, names()))
    except (LookupError, ValueError, RuntimeError, OverflowError) as error:
        return shown_error(error)


class Examples(unittest.TestCase):
    def test_state_names(self):
        self.assertEqual(samples.RING, (1, 2, 0))
        self.assertEqual(samples.LINE, (0, 0, 1, 2))
        self.assertEqual(samples.MIXED, (1, 0, 0, 2))

    def test_examples(self):
        for point in EXAMPLES:
            for expression, expected in examples(point):
                with self.subTest(expression, point=point):
                    self.assertEqual(shown_outcome(expression), expected)

    def test_number_of_examples(self):
        self.assertEqual({point: len(list(examples(point))) for point in EXAMPLES}, HOW_MANY)


class Names(unittest.TestCase):
    def test_all_functions_of_the_points_exist_and_are_queried(self):
        queried = {function for function, named in test_conventions.QUERIES}
        for module, listed in FUNCTIONS.items():
            for name in listed.split():
                function = getattr(module, name, None)
                self.assertTrue(callable(function), name)
                self.assertEqual(function.__module__, module.__name__)
                self.assertIn(function, queried)

    def test_all_errors_exist(self):
        for name in ("NoPerson NoNumber NoDeed OtherSize NoRoot MissingRoot NotKin NotPast BadDeed BadText BadLine"
                     " Unreachable NoCommon Denied IsRoot TooMany").split():
            self.assertTrue(issubclass(getattr(errors, name), Exception), name)


if __name__ == "__main__":
    unittest.main()
