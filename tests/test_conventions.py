"""Point [2] for states and calls: kinds of arguments, names, and nothing that is changed."""

import copy
import unittest

from lookpast import calls, states
from lookpast.errors import NoPerson
from tests import samples

QUERIES = (
    (states.way, {"state": samples.MIXED, "person": 3}),
    (states.way, {"state": samples.RING, "person": 0}),
    (states.person_after, {"state": samples.MIXED, "person": 3, "steps": 10 ** 12}),
    (states.person_after, {"state": samples.LINE, "person": 3, "steps": 2}),
    (states.rings, {"state": (1, 0, 2, 2)}),
    (states.ring_of, {"state": samples.MIXED, "person": 3}),
    (states.height, {"state": samples.LINE, "person": 3}),
    (states.components, {"state": (3, 2, 1, 3)}),
    (calls.called, {"state": samples.LINE, "person": 3}),
    (calls.called, {"state": samples.LINE, "person": 1}),
    (calls.called_all, {"state": samples.RING, "word": [0, 1, 1, 2]}),
    (calls.called_all, {"state": samples.RING, "word": []}),
    (calls.states_along, {"state": samples.LINE, "word": [3, 1, 2]}),
    (calls.states_along, {"state": samples.LINE, "word": []}),
    (calls.idle_calls, {"state": samples.LINE, "word": [3, 1, 2, 0]}),
)


def swapped(value):
    """The same value with lists in place of tuples and tuples in place of lists."""
    if isinstance(value, tuple):
        return [swapped(item) for item in value]
    if isinstance(value, list):
        return tuple(swapped(item) for item in value)
    return value


def kinds(value):
    """A value together with the kinds of all its parts."""
    if isinstance(value, (list, tuple)):
        return type(value), [kinds(item) for item in value]
    return type(value), value


class Arguments(unittest.TestCase):
    def each(self):
        for function, named in QUERIES:
            with self.subTest(function.__name__, **named):
                yield function, named, kinds(function(*named.values()))

    def test_by_name(self):
        for function, named, expected in self.each():
            self.assertEqual(kinds(function(**named)), expected)
            backwards = dict(reversed(list(named.items())))
            self.assertEqual(kinds(function(**backwards)), expected)

    def test_other_kinds_of_sequences(self):
        for function, named, expected in self.each():
            others = {name: swapped(value) for name, value in named.items()}
            self.assertEqual(kinds(function(**others)), expected)
            self.assertEqual(kinds(function(*others.values())), expected)

    def test_arguments_are_not_changed(self):
        for function, named, expected in self.each():
            for passed in (dict(named), {name: swapped(value) for name, value in named.items()}):
                before = copy.deepcopy(passed)
                function(**passed)
                self.assertEqual(kinds(list(passed.values())), kinds(list(before.values())))

    def test_the_same_query_again(self):
        for function, named, expected in self.each():
            for unused in range(3):
                self.assertEqual(kinds(function(**named)), expected)

    def test_a_returned_list_belongs_to_the_caller(self):
        for function, named, expected in self.each():
            for passed in (dict(named), {name: swapped(value) for name, value in named.items()}):
                result = function(**passed)
                if isinstance(result, list):
                    result.append("more")
                    result[0] = "other"
                    self.assertEqual(kinds(function(**passed)), expected)

    def test_later_changes_of_an_argument_do_not_reach_a_result(self):
        state = list(samples.LINE)
        along = calls.states_along(state, [3])
        once = calls.called(state, 1)
        state[0] = 2
        self.assertEqual(along, [(0, 0, 1, 2), (0, 0, 1, 1)])
        self.assertEqual(once, (0, 0, 1, 2))

    def test_one_list_as_state_and_word(self):
        both = [1, 2, 0]
        self.assertEqual(calls.called_all(both, both), (0, 0, 1))
        self.assertEqual(both, [1, 2, 0])

    def test_value_is_not_changed(self):
        value = [[1, 0], (0,), "0", None, True]
        before = copy.deepcopy(value)
        self.assertIs(states.is_state(value), False)
        self.assertEqual(value, before)

    def test_results_may_be_passed_in_again(self):
        word = states.way(samples.RING, 0)
        after = calls.called_all(samples.RING, word)
        self.assertIs(states.is_state(after), True)
        self.assertEqual(calls.called_all(after, word), (0, 0, 0))
        self.assertEqual(states.rings(after), [(0,)])

    def test_a_query_that_raises_changes_nothing(self):
        state = list(samples.RING)
        word = [0, 1, 7]
        for function in (calls.called_all, calls.states_along, calls.idle_calls):
            self.assertRaises(NoPerson, function, state, word)
            self.assertEqual([state, word], [list(samples.RING), [0, 1, 7]])


class Beyond(unittest.TestCase):
    def test_somewhat_more_people_and_calls_than_the_limits(self):
        state = samples.ring_state(60)
        self.assertEqual(states.rings(state), [tuple(range(60))])
        self.assertEqual(states.person_after(state, 0, 10 ** 13), 10 ** 13 % 60)
        self.assertEqual(len(calls.states_along(state, [0] * 4500)), 4501)


if __name__ == "__main__":
    unittest.main()
