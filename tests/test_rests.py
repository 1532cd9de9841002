"""Point [8]: states of rest, and the fewest calls that lead to one."""

import itertools
import random
import unittest

from lookpast import rests
from lookpast.errors import MissingRoot, NoPerson, NoRoot
from tests import plain, samples
from tests.cases import ErrorCase

WITH_ROOTS = (rests.rest_with, rests.fewest_to_rest, rests.word_to_rest)


def root_lists(state):
    """Every list of roots, each in ascending order and turned about."""
    for roots in itertools.product(*plain.rings(state)):
        yield list(roots)
        if len(roots) > 1:
            yield list(reversed(roots))


def some_root_lists(state, seed=2):
    chosen = random.Random(seed)
    for unused in range(6):
        roots = [chosen.choice(ring) for ring in plain.rings(state)]
        chosen.shuffle(roots)
        yield roots


def rest(state, roots):
    return tuple(next(root for root in roots if root in plain.way(state, x)) for x in range(len(state)))


def astray(state, roots):
    return [x for x in range(len(state)) if state[x] != rest(state, roots)[x]]


def fewest_calls(state, goal):
    """How many layers of calls a state is from its goal."""
    layer = {state}
    many = 0
    while goal not in layer:
        layer = {plain.call(old, x) for old in layer for x in range(len(old))}
        many += 1
    return many


def is_idle_throughout(state):
    return all(plain.call(state, x) == state for x in range(len(state)))


def samples_with_roots():
    for state in samples.small_states():
        for roots in root_lists(state):
            yield state, roots
    for state in samples.large_states():
        for roots in some_root_lists(state):
            yield state, roots


class AtRest(unittest.TestCase):
    def test_against_calls(self):
        for state in samples.all_samples():
            self.assertIs(rests.is_at_rest(state), is_idle_throughout(state), state)

    def test_rests_many_of_small_states(self):
        for state in samples.small_states():
            found = [goal for goal in plain.futures(state) if is_idle_throughout(goal)]
            self.assertEqual(rests.rests_many(state), len(found), state)

    def test_rests_many_of_large_states(self):
        self.assertEqual(rests.rests_many(samples.ring_state(40)), 40)
        self.assertEqual(rests.rests_many(samples.line_state(40)), 1)
        self.assertEqual(rests.rests_many(tuple(range(40))), 1)
        self.assertEqual(rests.rests_many(tuple(reversed(range(40)))), 2 ** 20)
        self.assertEqual(rests.rests_many((1, 2, 0, 4, 3, 3, 6)), 6)


class Roots(unittest.TestCase):
    def test_rest_with(self):
        for state, roots in samples_with_roots():
            found = rests.rest_with(state, roots)
            self.assertIs(type(found), tuple)
            self.assertEqual(found, rest(state, roots), (state, roots))
            self.assertTrue(is_idle_throughout(found))

    def test_it_is_a_future(self):
        for state in samples.small_states():
            found = {rests.rest_with(state, roots) for roots in root_lists(state)}
            self.assertEqual(found, {goal for goal in plain.futures(state) if is_idle_throughout(goal)}, state)

    def test_fewest_to_rest(self):
        for state, roots in samples_with_roots():
            self.assertEqual(rests.fewest_to_rest(state, roots), len(astray(state, roots)), (state, roots))

    def test_fewest_to_rest_against_all_words(self):
        for state in itertools.chain(samples.small_states(), [samples.ring_state(5), (1, 2, 0, 2, 3)]):
            for roots in root_lists(state):
                expected = fewest_calls(state, rest(state, roots))
                self.assertEqual(rests.fewest_to_rest(state, roots), expected, (state, roots))

    def test_word_to_rest(self):
        for state, roots in samples_with_roots():
            word = rests.word_to_rest(state, roots)
            self.assertIs(type(word), list)
            self.assertEqual(len(word), len(astray(state, roots)), (state, roots))
            self.assertEqual(plain.call_all(state, word), rest(state, roots), (state, roots))
            self.assertEqual(rests.word_to_rest(list(state), roots=tuple(roots)), word)

    def test_roots_in_any_order(self):
        state = (1, 2, 0, 4, 3, 3, 6, 6)
        expected = (2, 2, 2, 3, 3, 3, 6, 6)
        for roots in itertools.permutations([2, 3, 6]):
            self.assertEqual(rests.rest_with(state, roots), expected)
            self.assertEqual(rests.fewest_to_rest(state, list(roots)), 3)
            self.assertEqual(plain.call_all(state, rests.word_to_rest(state, roots)), expected)
            self.assertIs(rests.shows_fewest(state, roots, [0, 2, 3]), True)

    def test_nothing_to_do_at_rest(self):
        for state in ((0,), (0, 0, 2), tuple(range(40)), (7,) * 40):
            roots = sorted(set(state))
            self.assertEqual(rests.rest_with(state, roots), state)
            self.assertEqual(rests.fewest_to_rest(state, roots), 0)
            self.assertEqual(rests.word_to_rest(state, roots), [])
            self.assertIs(rests.shows_fewest(state, roots, []), True)


class ShowsFewest(unittest.TestCase):
    def test_the_list_itself(self):
        for state, roots in samples_with_roots():
            expected = astray(state, roots)
            self.assertIs(rests.shows_fewest(state, roots, expected), True, (state, roots))
            self.assertIs(rests.shows_fewest(state, roots, tuple(expected)), False)
            self.assertIs(rests.shows_fewest(state, roots, expected + [0]), False)
            self.assertIs(rests.shows_fewest(state, roots, [expected]), False)
            if expected:
                self.assertIs(rests.shows_fewest(state, roots, expected[1:]), False)
                self.assertIs(rests.shows_fewest(state, roots, expected[:-1]), False)
                self.assertIs(rests.shows_fewest(state, roots, expected + expected[-1:]), False)
            if len(expected) > 1:
                self.assertIs(rests.shows_fewest(state, roots, expected[::-1]), False)

    def test_every_short_list(self):
        for state in samples.small_states(3):
            for roots in root_lists(state):
                for length in range(4):
                    for value in itertools.product(range(-1, 4), repeat=length):
                        expected = list(value) == astray(state, roots)
                        self.assertIs(rests.shows_fewest(state, roots, list(value)), expected, (state, roots, value))

    def test_booleans_are_no_people(self):
        state, roots = (1, 2, 0), [0]
        self.assertIs(rests.shows_fewest(state, roots, [0, 1]), True)
        self.assertIs(rests.shows_fewest(state, roots, [False, 1]), False)
        self.assertIs(rests.shows_fewest(state, roots, [0, True]), False)

    def test_odd_values(self):
        for state, roots in ((samples.MIXED, [1]), (samples.RING, [0]), ((1, 0), [1])):
            for value in samples.ODD_VALUES + ([1, 2, "3"], [1, 2, [3]], [1, 2, None], [[1, 2, 3]], [1, 2, 3] * 50000):
                self.assertIs(rests.shows_fewest(state, roots, value), False)


class Errors(ErrorCase):
    def check_roots(self, error, state, roots):
        for function in WITH_ROOTS:
            self.check_raises(error, function, state, roots)
            self.check_raises(error, function, roots=tuple(roots), state=list(state))
        for value in ([], [0], None, "x", [1, 2, 3]):
            self.check_raises(error, rests.shows_fewest, state, roots, value)

    def test_no_person(self):
        for state in (samples.RING, samples.MIXED, (0,), samples.ring_state(40)):
            for stranger in samples.strangers(state):
                self.check_roots(NoPerson(stranger), state, [stranger])
                self.check_roots(NoPerson(stranger), state, [0, stranger])
                self.check_roots(NoPerson(stranger), state, [stranger, 0, stranger + 1])

    def test_no_root(self):
        self.check_roots(NoRoot(2), samples.MIXED, [2])
        self.check_roots(NoRoot(3), samples.MIXED, [3, 2])
        self.check_roots(NoRoot(2), samples.MIXED, [0, 2])
        self.check_roots(NoRoot(1), samples.MIXED, [0, 1])
        self.check_roots(NoRoot(0), samples.MIXED, [1, 0])
        self.check_roots(NoRoot(1), samples.MIXED, [1, 1])
        self.check_roots(NoRoot(0), (0,), [0, 0])
        self.check_roots(NoRoot(2), (0, 1, 0), [0, 1, 2, 1])
        self.check_roots(NoRoot(1), (0, 1, 0), [0, 1, 1, 2])

    def test_missing_root(self):
        self.check_roots(MissingRoot(0), samples.RING, [])
        self.check_roots(MissingRoot(0), (0,), [])
        self.check_roots(MissingRoot(1), (0, 2, 1), [0])
        self.check_roots(MissingRoot(0), (0, 2, 1), [2])
        self.check_roots(MissingRoot(1), (0, 2, 1, 3, 4), [4, 0])
        self.check_roots(MissingRoot(1), (1, 1, 2), [2])

    def test_no_person_comes_first(self):
        self.check_roots(NoPerson(9), samples.MIXED, [2, 9])
        self.check_roots(NoPerson(-1), samples.MIXED, [0, 0, -1, 9])
        self.check_roots(NoPerson(4), (0, 2, 1, 3), [4])
        self.check_roots(NoPerson(7), (0, 2, 1, 0), [3, 0, 7])

    def test_no_root_comes_before_missing_root(self):
        self.check_roots(NoRoot(3), (0, 2, 1, 0), [3])
        self.check_roots(NoRoot(2), (0, 2, 1, 0), [1, 2])
        self.check_roots(NoRoot(1), (0, 2, 1, 0), [2, 1, 3])

    def test_all_lists_of_small_states(self):
        for state in samples.small_states(3):
            for length in range(4):
                for roots in itertools.product(range(-1, len(state) + 1), repeat=length):
                    error = self.expected_error(state, roots)
                    if error is None:
                        self.assertEqual(rests.rest_with(state, roots), rest(state, roots))
                    else:
                        self.check_raises(error, rests.rest_with, state, roots)

    def expected_error(self, state, roots):
        for person in roots:
            if not 0 <= person < len(state):
                return NoPerson(person)
        for at, person in enumerate(roots):
            earlier = [plain.ring_of(state, other) for other in roots[:at]]
            if not plain.is_on_ring(state, person) or plain.ring_of(state, person) in earlier:
                return NoRoot(person)
        for ring in plain.rings(state):
            if not set(ring) & set(roots):
                return MissingRoot(ring[0])
        return None


if __name__ == "__main__":
    unittest.main()
