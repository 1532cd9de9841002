"""Point [11]: pasts that are rings or lines."""

import itertools
import math
import random
import unittest

from lookpast import pasts
from lookpast.errors import NoNumber, NotPast, OtherSize
from tests import plain, samples
from tests.cases import ErrorCase

STAR = (0,) * 40
FIVE = ((1, 0, 0, 2, 2), (0, 0, 0, 1, 1), (1, 0, 3, 3, 2), (2, 1, 2, 1, 3), (2, 2, 3, 0, 0))


def searched_states():
    return itertools.chain(samples.small_states(), FIVE)


def ring_pasts_by_rule(state):
    many = 1
    for group in plain.components(state):
        many *= math.factorial(len(group) - 1) // math.factorial(len(plain.ring_of(state, group[0])) - 1)
    return many


def line_pasts_by_rule(state):
    if any(len(ring) > 1 for ring in plain.rings(state)):
        return 0
    many = 1
    for group in plain.components(state):
        behind = [len({x} | {y for y in group if x in plain.way(state, y)}) for x in group]
        many *= math.factorial(len(group)) // math.prod(behind)
    return many


def large_forests():
    chosen = random.Random(12)
    yield from (STAR, samples.line_state(40), tuple(range(40)), tuple(max(x - 3, 0) for x in range(40)))
    for size in (6, 12, 40):
        for unused in range(4):
            yield samples.small_forest(size, chosen)


class PastCase(unittest.TestCase):
    def check_all(self, many, at, number, is_such, parts):
        """Check all such pasts of small states, in the order of their parts."""
        for state in searched_states():
            expected = [past for past in plain.pasts(state) if is_such(past)]
            expected.sort(key=lambda past: parts(state, past))
            self.assertEqual(many(state), len(expected), state)
            found = [at(state, place) for place in range(len(expected))]
            self.assertEqual(found, expected, state)
            self.assertTrue(all(type(past) is tuple for past in found))
            self.assertEqual([number(state, past) for past in expected], list(range(len(expected))), state)

    def check_some(self, states, many, at, number, is_such, parts):
        """Check some such pasts of large states, and that their parts ascend with the numbers."""
        for state in states:
            numbers = samples.some_numbers(many(state))
            found = [at(state, place) for place in numbers]
            for past in found:
                self.assertTrue(is_such(past))
                self.assertIsNone(plain.obstacle(past, state))
            self.assertEqual([number(state, past) for past in found], numbers, state)
            ordered = [parts(state, past) for past in found]
            self.assertEqual(ordered, sorted(ordered))
            self.assertEqual(len(set(found)), len(found))


class RingPasts(PastCase):
    functions = (pasts.ring_pasts_many, pasts.ring_past_at, pasts.ring_past_number, plain.is_all_rings, plain.laps)

    def test_all_of_small_states_in_order(self):
        self.check_all(*self.functions)

    def test_the_numbers_of_the_formula(self):
        for state in itertools.chain(samples.all_samples(), large_forests()):
            self.assertEqual(pasts.ring_pasts_many(state), ring_pasts_by_rule(state), state)
        self.assertEqual(pasts.ring_pasts_many(STAR), math.factorial(39))
        self.assertEqual(pasts.ring_pasts_many(samples.ring_state(40)), 1)

    def test_back_and_forth(self):
        self.check_some(itertools.chain(samples.large_states(), large_forests()), *self.functions)

    def test_several_components(self):
        state = (4, 1, 1, 3, 0, 0, 1, 3)
        many = pasts.ring_pasts_many(state)
        self.assertEqual(many, 2 * 2 * 1)
        laps = [plain.laps(state, pasts.ring_past_at(state, number)) for number in range(many)]
        self.assertEqual(laps, [
            [(0, 4, 5), (1, 2, 6), (3, 7)], [(0, 4, 5), (1, 6, 2), (3, 7)],
            [(0, 5, 4), (1, 2, 6), (3, 7)], [(0, 5, 4), (1, 6, 2), (3, 7)],
        ])

    def test_laps_begin_with_the_least_member_of_the_old_ring(self):
        state = (2, 2, 3, 2)
        laps = [plain.laps(state, pasts.ring_past_at(state, number)) for number in range(6)]
        self.assertEqual(laps, sorted(laps))
        self.assertEqual(laps[0], [(2, 0, 1, 3)])
        self.assertEqual(laps[5], [(2, 3, 1, 0)])

    def test_ends_of_great_numbers(self):
        self.assertEqual(pasts.ring_past_at(STAR, 0), samples.ring_state(40))
        self.assertEqual(pasts.ring_past_at(STAR, math.factorial(39) - 1), (39,) + tuple(range(39)))


class LinePasts(PastCase):
    functions = (pasts.line_pasts_many, pasts.line_past_at, pasts.line_past_number, plain.is_all_lines, plain.lines)

    def test_all_of_small_states_in_order(self):
        self.check_all(*self.functions)

    def test_the_numbers_of_the_formula(self):
        for state in itertools.chain(samples.all_samples(), large_forests()):
            self.assertEqual(pasts.line_pasts_many(state), line_pasts_by_rule(state), state)
        self.assertEqual(pasts.line_pasts_many(STAR), math.factorial(39))
        self.assertEqual(pasts.line_pasts_many(samples.line_state(40)), 1)
        self.assertEqual(pasts.line_pasts_many((0, 2, 1)), 0)

    def test_back_and_forth(self):
        self.check_some(large_forests(), *self.functions)

    def test_several_components(self):
        state = (0, 1, 1, 0, 0, 1)
        lines = [plain.lines(state, pasts.line_past_at(state, number)) for number in range(4)]
        self.assertEqual(lines, [
            [(3, 4, 0), (2, 5, 1)], [(3, 4, 0), (5, 2, 1)], [(4, 3, 0), (2, 5, 1)], [(4, 3, 0), (5, 2, 1)],
        ])
        self.assertEqual(pasts.line_pasts_many(state), 4)

    def test_ends_of_great_numbers(self):
        last = math.factorial(39) - 1
        self.assertEqual(plain.lines(STAR, pasts.line_past_at(STAR, 0)), [tuple(range(1, 40)) + (0,)])
        self.assertEqual(plain.lines(STAR, pasts.line_past_at(STAR, last)), [tuple(range(39, -1, -1))])


class Errors(ErrorCase):
    def test_no_number(self):
        for state in (samples.RING, samples.LINE, samples.MIXED, (0,), (0, 0, 0), STAR, (0, 1, 1, 0), (0, 2, 1)):
            for many, function in ((pasts.ring_pasts_many(state), pasts.ring_past_at),
                                   (pasts.line_pasts_many(state), pasts.line_past_at)):
                for number in samples.far_numbers(many):
                    self.check_raises(NoNumber(number), function, state, number)
                    self.check_raises(NoNumber(number), function, number=number, state=list(state))

    def test_no_line_past_has_the_number_0_if_there_is_none(self):
        self.check_raises(NoNumber(0), pasts.line_past_at, samples.RING, 0)
        self.check_raises(NoNumber(0), pasts.line_past_at, (0, 2, 1), 0)

    def test_not_past_among_small_states(self):
        for state, past in samples.small_pairs(3):
            is_past = past in plain.pasts(state)
            if not (is_past and plain.is_all_rings(past)):
                self.check_raises(NotPast(), pasts.ring_past_number, state, past)
            if not (is_past and plain.is_all_lines(past)):
                self.check_raises(NotPast(), pasts.line_past_number, state, past)

    def test_not_past(self):
        for function in (pasts.ring_past_number, pasts.line_past_number):
            self.check_raises(NotPast(), function, samples.LINE, samples.MIXED)
            self.check_raises(NotPast(), function, state=[0, 0, 1, 2], past=[0, 0, 0, 0])
            self.check_raises(NotPast(), function, (0, 1, 2), (0, 0, 1))
            self.check_raises(NotPast(), function, samples.RING, (2, 0, 1))
            self.check_raises(NotPast(), function, samples.MIXED, samples.MIXED)
        self.check_raises(NotPast(), pasts.ring_past_number, (0, 0, 0, 0), (1, 0, 3, 2))
        self.check_raises(NotPast(), pasts.line_past_number, (0, 0, 1), (0, 2, 0))
        self.check_raises(NotPast(), pasts.line_past_number, (0, 0, 0), (0, 0, 0))

    def test_other_size(self):
        for state, past in ((samples.RING, (1, 0)), ((0,), (1, 0)), (samples.RING, samples.ring_state(41)), ([0], [1, 1]),
                            ((0, 0), (0, 0, 1)), (samples.RING, (0, 0, 0, 0))):
            for function in (pasts.ring_past_number, pasts.line_past_number):
                self.check_raises(OtherSize(len(past)), function, state, past)
                self.check_raises(OtherSize(len(past)), function, past=past, state=state)


if __name__ == "__main__":
    unittest.main()
