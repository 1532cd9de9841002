"""Point [10]: common futures and common pasts."""

import itertools
import random
import unittest

from lookpast import common
from lookpast.errors import NoCommon, OtherSize
from tests import plain, samples
from tests.cases import ErrorCase


def pairs_of_four():
    """All pairs of four people with the same components, and many others."""
    states = list(itertools.product(range(4), repeat=4))
    for one, other in itertools.product(states, states):
        if plain.components(one) == plain.components(other):
            yield one, other
    yield from samples.some_pairs(4, 700)


def searched_pairs():
    yield from samples.small_pairs(3)
    yield from pairs_of_four()


def shuffled_blocks(size, chosen):
    """A state of two components, the even and the odd people, each with a ring and people beside it."""
    pointers = [0] * size
    for first in (0, 1):
        people = list(range(first, size, 2))
        chosen.shuffle(people)
        ring = people[:chosen.randrange(1, len(people) + 1)]
        for person, target in zip(ring, ring[1:] + ring[:1]):
            pointers[person] = target
        for at in range(len(ring), len(people)):
            pointers[people[at]] = people[chosen.randrange(at)]
    return tuple(pointers)


def large_pairs():
    chosen = random.Random(10)
    for size in (6, 7, 40):
        for unused in range(60):
            yield shuffled_blocks(size, chosen), shuffled_blocks(size, chosen)
        yield from samples.some_pairs(size, 10)
        for unused in range(10):
            yield samples.turned_ring(size, chosen), samples.turned_ring(size, chosen)
    for state in samples.large_states():
        futures = list(samples.later_states(state)) + list(samples.later_states(state, 31))
        yield from itertools.combinations(futures, 2)


class Futures(unittest.TestCase):
    def test_bar_against_all_futures(self):
        for one, other in searched_pairs():
            found = common.future_bar(one, other)
            self.assertEqual(found, plain.future_bar(one, other), (one, other))
            has_none = plain.futures(one).isdisjoint(plain.futures(other))
            self.assertIs(found is not None, has_none, (one, other))

    def test_common_future_of_small_states(self):
        for one, other in searched_pairs():
            if plain.future_bar(one, other) is None:
                found = common.common_future(one, other)
                self.assertIs(type(found), tuple)
                self.assertIn(found, plain.futures(one) & plain.futures(other))
                self.assertEqual(found, self.rest(one, other), (one, other))

    def rest(self, one, other):
        roots = {group: plain.shared(one, other, group)[0] for group in plain.components(one)}
        return tuple(roots[plain.component_of(one, x)] for x in range(len(one)))

    def test_large_states(self):
        kinds = set()
        for one, other in large_pairs():
            found = common.future_bar(one, other)
            self.assertEqual(found, plain.future_bar(one, other), (one, other))
            kinds.add(None if found is None else found[0])
            if found is None:
                self.assertEqual(common.common_future(one, other), self.rest(one, other))
        self.assertEqual(kinds, {None, "people", "rings"})

    def test_the_least_person(self):
        self.assertEqual(common.future_bar((0, 1, 2), (0, 1, 1)), ("people", 1))
        self.assertEqual(common.future_bar((0, 2, 2, 3), (0, 1, 3, 3)), ("people", 1))
        self.assertEqual(common.future_bar((0, 2, 2, 0), (3, 1, 1, 3)), ("rings", 0))
        self.assertEqual(common.future_bar((0, 2, 2, 0), (3, 1, 1, 0)), ("rings", 1))
        self.assertEqual(common.future_bar((0, 2, 2, 4, 4), (0, 1, 1, 3, 4)), ("people", 3))

    def test_the_least_common_member_is_the_root(self):
        self.assertEqual(common.common_future((1, 2, 3, 0), (1, 1, 3, 1)), (1, 1, 1, 1))
        self.assertEqual(common.common_future((3, 0, 1, 2), (2, 3, 3, 2)), (2, 2, 2, 2))


class Pasts(unittest.TestCase):
    def test_bar_against_all_pasts(self):
        for one, other in searched_pairs():
            found = common.past_bar(one, other)
            self.assertEqual(found, plain.past_bar(one, other), (one, other))
            has_none = plain.pasts(one).isdisjoint(plain.pasts(other))
            self.assertIs(found is not None, has_none, (one, other))

    def test_common_past_of_small_states(self):
        for one, other in searched_pairs():
            if plain.past_bar(one, other) is None:
                found = common.common_past(one, other)
                self.assertIs(type(found), tuple)
                self.assertIn(found, plain.pasts(one) & plain.pasts(other), (one, other))
                self.assertEqual(common.common_past(list(one), other=list(other)), found)

    def test_large_states(self):
        kinds = set()
        for one, other in large_pairs():
            found = common.past_bar(one, other)
            self.assertEqual(found, plain.past_bar(one, other), (one, other))
            kinds.add(None if found is None else found[0])
            if found is None:
                past = common.common_past(one, other)
                self.assertIsNone(plain.obstacle(past, one), (one, other))
                self.assertIsNone(plain.obstacle(past, other), (one, other))
                self.assertEqual(common.common_past(one, other), past)
        self.assertEqual(kinds, {None, "people", "order"})

    def test_the_first_component_out_of_order(self):
        one, other = (2, 3, 4, 5, 0, 1), (4, 5, 0, 1, 2, 3)
        self.assertEqual(common.past_bar(one, other), ("order", 0, 2, 4))
        self.assertEqual(common.past_bar(one, (2, 5, 4, 1, 0, 3)), ("order", 1, 3, 5))

    def test_others_between_do_not_count(self):
        one = (4, 5, 3, 0, 1, 2)
        other = (2, 0, 1, 0, 0, 0)
        self.assertEqual(common.past_bar(one, other), ("order", 0, 1, 2))
        self.assertEqual(common.past_bar(other, one), ("order", 0, 2, 1))

    def test_the_first_two_that_are_met_the_other_way_round(self):
        one = samples.ring_state(6)
        self.assertEqual(common.past_bar(one, (1, 3, 4, 2, 5, 0)), ("order", 0, 2, 3))
        self.assertEqual(common.past_bar(one, (2, 3, 4, 5, 1, 0)), ("order", 0, 1, 2))
        self.assertEqual(common.past_bar((1, 3, 4, 2, 5, 0), one), ("order", 0, 3, 2))

    def test_the_least_person(self):
        self.assertEqual(common.past_bar((0, 2, 2, 3), (0, 1, 3, 3)), ("people", 1))
        self.assertEqual(common.past_bar((1, 2, 0, 3), (2, 0, 1, 0)), ("people", 0))

    def test_rings_without_common_members_have_a_common_past(self):
        one, other = (1, 2, 0, 0, 0, 0), (3, 3, 3, 4, 5, 3)
        past = common.common_past(one, other)
        self.assertIsNone(plain.obstacle(past, one))
        self.assertIsNone(plain.obstacle(past, other))


class Errors(ErrorCase):
    def test_no_common(self):
        for one, other in itertools.chain(samples.small_pairs(3), large_pairs()):
            for bar, function in ((plain.future_bar(one, other), common.common_future),
                                  (plain.past_bar(one, other), common.common_past)):
                if bar is not None:
                    self.check_raises(NoCommon(bar), function, one, other)

    def test_other_size(self):
        for one, other in ((samples.RING, (1, 0)), ((0,), (1, 0)), (samples.RING, samples.ring_state(41)), ([0], [1, 1]),
                           ((0, 1, 2), (0, 0, 0, 0))):
            for function in (common.future_bar, common.common_future, common.past_bar, common.common_past):
                self.check_raises(OtherSize(len(other)), function, one, other)
                self.check_raises(OtherSize(len(other)), function, other=other, one=one)


if __name__ == "__main__":
    unittest.main()
