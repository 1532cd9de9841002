"""Point [16]: other numbers, other people."""

import itertools
import random
import unittest

from lookpast import futures, people, reach, states
from lookpast.errors import IsRoot, NoPerson
from tests import plain, samples
from tests.cases import ErrorCase


def all_numberings():
    """All states of up to three people with all their numberings, and larger ones with some."""
    chosen = random.Random(16)
    for state in samples.small_states(3):
        for numbers in itertools.permutations(range(len(state))):
            yield state, numbers
    for state in samples.large_states():
        order = list(range(len(state)))
        chosen.shuffle(order)
        yield state, tuple(order)
        yield state, tuple(reversed(range(len(state))))


def leavers():
    """States of all sizes with everybody who can leave."""
    for state in samples.all_samples():
        for person in range(len(state)):
            if state[person] != person:
                yield state, person


class Renumbered(unittest.TestCase):
    def test_each_pointer(self):
        for state, numbers in all_numberings():
            found = people.renumbered(state, numbers)
            self.assertIs(type(found), tuple)
            self.assertEqual(len(found), len(state))
            for x in range(len(state)):
                self.assertEqual(found[numbers[x]], numbers[state[x]], (state, numbers))

    def test_back_again(self):
        for state, numbers in all_numberings():
            back = tuple(numbers.index(x) for x in range(len(state)))
            self.assertEqual(people.renumbered(people.renumbered(state, numbers), back), state)
            self.assertEqual(people.renumbered(state, tuple(range(len(state)))), state)

    def test_ways_and_futures_are_the_same(self):
        for state, numbers in all_numberings():
            found = people.renumbered(state, numbers)
            for x in range(len(state)):
                self.assertEqual(states.way(found, numbers[x]), [numbers[y] for y in plain.way(state, x)])
            self.assertEqual(futures.futures_many(found), futures.futures_many(state))

    def test_what_leads_where_is_the_same(self):
        for state, goal in samples.small_pairs(3):
            for numbers in itertools.permutations(range(len(state))):
                one, other = people.renumbered(state, numbers), people.renumbered(goal, numbers)
                self.assertIs(reach.leads(one, other), goal in plain.futures(state))


class Bypassed(ErrorCase):
    def test_each_pointer(self):
        for state, person in leavers():
            found = people.bypassed(state, person)
            self.assertIs(type(found), tuple)
            others = [x for x in range(len(state)) if x != person]
            expected = []
            for x in others:
                target = state[person] if state[x] == person else state[x]
                expected.append(others.index(target))
            self.assertEqual(found, tuple(expected), (state, person))

    def test_the_others_have_the_same_ways(self):
        for state, person in leavers():
            found = people.bypassed(state, person)
            others = [x for x in range(len(state)) if x != person]
            for number, x in enumerate(others):
                expected = [others.index(y) for y in plain.way(state, x) if y != person]
                self.assertEqual(states.way(found, number), expected, (state, person))

    def test_down_to_roots(self):
        state = samples.lasso_state(40, 20)
        while len(state) > 1:
            state = people.bypassed(state, max(x for x in range(len(state)) if state[x] != x))
        self.assertEqual(state, (0,))
        self.assertEqual(people.bypassed((1, 0), 0), (0,))
        self.assertEqual(people.bypassed((1, 0), 1), (0,))

    def test_no_person(self):
        for state in (samples.RING, samples.LINE, (0,), samples.ring_state(40), tuple(range(40))):
            for stranger in samples.strangers(state):
                self.check_raises(NoPerson(stranger), people.bypassed, state, stranger)

    def test_roots(self):
        for state in samples.all_samples():
            for person in range(len(state)):
                if state[person] == person:
                    self.check_raises(IsRoot(person), people.bypassed, state, person)


class Joined(unittest.TestCase):
    def pairs(self):
        yield from itertools.product(samples.small_states(3), repeat=2)
        for one in samples.large_states():
            for other in ((0,), samples.MIXED, samples.ring_state(12)):
                yield one, other
                yield other, one

    def test_each_pointer(self):
        for one, other in self.pairs():
            found = people.joined(one, other)
            self.assertIs(type(found), tuple)
            self.assertEqual(found[:len(one)], one)
            self.assertEqual([target - len(one) for target in found[len(one):]], list(other))

    def test_futures_of_both(self):
        for one, other in self.pairs():
            many = futures.futures_many(one) * futures.futures_many(other)
            self.assertEqual(futures.futures_many(people.joined(one, other)), many)

    def test_what_leads_where_is_the_same(self):
        pairs = list(samples.small_pairs(2)) + [(samples.RING, (1, 0, 0)), (samples.RING, (2, 0, 1))]
        for one, one_goal in pairs:
            for other, other_goal in pairs:
                both = reach.leads(people.joined(one, other), people.joined(one_goal, other_goal))
                self.assertIs(both, one_goal in plain.futures(one) and other_goal in plain.futures(other))

    def test_other_sizes_are_no_errors(self):
        self.assertEqual(people.joined((0,), samples.RING), (0, 2, 3, 1))
        self.assertEqual(people.joined(samples.RING, (0,)), (1, 2, 0, 3))


class PartOf(ErrorCase):
    def test_each_pointer(self):
        for state in samples.all_samples():
            for person in range(len(state)):
                group = plain.component_of(state, person)
                found = people.part_of(state, person)
                self.assertIs(type(found), tuple)
                self.assertEqual([group[target] for target in found], [state[x] for x in group], (state, person))

    def test_it_has_one_component(self):
        for state in samples.all_samples():
            for person in range(len(state)):
                found = people.part_of(state, person)
                self.assertEqual(states.components(found), [tuple(range(len(found)))])

    def test_parts_of_what_was_joined(self):
        for one in (samples.RING, samples.LINE, samples.lasso_state(20, 4)):
            for other in (samples.MIXED, (0,), samples.ring_state(20)):
                both = people.joined(one, other)
                self.assertEqual(people.part_of(both, 0), one)
                self.assertEqual(people.part_of(both, len(both) - 1), other)

    def test_the_futures_of_the_parts(self):
        for state in samples.all_samples():
            product = 1
            for group in plain.components(state):
                product *= futures.futures_many(people.part_of(state, group[-1]))
            self.assertEqual(product, futures.futures_many(state))

    def test_no_person(self):
        for state in (samples.RING, samples.LINE, (0,), samples.ring_state(40)):
            for stranger in samples.strangers(state):
                self.check_no_person(stranger, people.part_of, state, stranger)


if __name__ == "__main__":
    unittest.main()
