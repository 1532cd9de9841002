"""Point [4]: states, ways, rings, heights and components."""

import unittest

from lookpast import states
from tests import plain, samples
from tests.cases import ErrorCase


def nested(depth, inner):
    value = inner
    for unused in range(depth):
        value = (value,)
    return value


class IsState(unittest.TestCase):
    def test_states(self):
        for state in samples.all_samples():
            self.assertIs(states.is_state(state), True, state)

    def test_one_person(self):
        self.assertIs(states.is_state((0,)), True)

    def test_more_than_the_limit(self):
        for size in (41, 400, 30000):
            self.assertIs(states.is_state(samples.ring_state(size)), True)
            self.assertIs(states.is_state((size - 1,) * size), True)

    def test_one_wrong_item_among_many(self):
        for wrong in (-1, 30000, True, False, None, "0", (0,), [0], 10 ** 5000):
            for at in (0, 17, 29999):
                value = list(samples.ring_state(30000))
                value[at] = wrong
                self.assertIs(states.is_state(tuple(value)), False)

    def test_wrong_numbers(self):
        for value in ((1,), (-1,), (1, 3), (2, 0), (0, 2), (0, -1), (0, 1, 3), (10 ** 30, 0), (0, -10 ** 30)):
            self.assertIs(states.is_state(value), False, value)

    def test_booleans_are_no_integers(self):
        for value in ((False,), (True,), (0, True), (True, 0), (False, False), (1, 0, False)):
            self.assertIs(states.is_state(value), False, value)

    def test_other_items(self):
        for value in ((None,), ("0",), ("",), ((0,),), ([0],), ((),), (0, None), (0, "1"), (0, (1,)), (0, [])):
            self.assertIs(states.is_state(value), False, value)

    def test_other_values(self):
        for value in ((), [], [0], [1, 0], [(0,)], 0, 1, -1, 10 ** 5000, True, False, None, "", "0", "(0,)", "1 0"):
            self.assertIs(states.is_state(value), False, value)

    def test_nested_values(self):
        for depth in range(1, 8):
            self.assertIs(states.is_state(nested(depth, (0,))), False)
            self.assertIs(states.is_state(nested(depth, [0])), False)

    def test_by_name(self):
        self.assertIs(states.is_state(value=(1, 0)), True)
        self.assertIs(states.is_state(value=[1, 0]), False)


class AgainstPlain(unittest.TestCase):
    def each(self):
        for state in samples.all_samples():
            for person in range(len(state)):
                yield state, person

    def test_way(self):
        for state, person in self.each():
            self.assertEqual(states.way(state, person), plain.way(state, person), (state, person))

    def test_person_after_few_steps(self):
        for state, person in self.each():
            at = person
            for steps in range(2 * len(state) + 3):
                self.assertEqual(states.person_after(state, person, steps), at, (state, person, steps))
                at = state[at]

    def test_person_after_many_steps(self):
        for state, person in self.each():
            for steps in (100, 999999, 10 ** 9 + 7, 10 ** 12 - 1, 10 ** 12):
                expected = plain.follow_far(state, person, steps)
                self.assertEqual(states.person_after(state, person, steps), expected, (state, person, steps))

    def test_ring_of(self):
        for state, person in self.each():
            self.assertEqual(states.ring_of(state, person), plain.ring_of(state, person), (state, person))

    def test_height(self):
        for state, person in self.each():
            self.assertEqual(states.height(state, person), plain.height(state, person), (state, person))

    def test_rings(self):
        for state in samples.all_samples():
            self.assertEqual(states.rings(state), plain.rings(state), state)

    def test_components(self):
        for state in samples.all_samples():
            self.assertEqual(states.components(state), plain.components(state), state)


class Forms(unittest.TestCase):
    def test_rings_begin_with_the_least_member_and_ascend(self):
        for state in samples.all_samples():
            found = states.rings(state)
            self.assertEqual(found, sorted(set(found)))
            for ring in found:
                self.assertIsInstance(ring, tuple)
                self.assertEqual(ring[0], min(ring))
                self.assertEqual([state[x] for x in ring], list(ring[1:] + ring[:1]))

    def test_components_ascend_and_share_out_the_people(self):
        for state in samples.all_samples():
            found = states.components(state)
            self.assertEqual(found, sorted(found))
            for group in found:
                self.assertIsInstance(group, tuple)
                self.assertEqual(list(group), sorted(group))
            self.assertEqual(sorted(sum(found, ())), list(range(len(state))))

    def test_one_person(self):
        self.assertEqual(states.way((0,), 0), [0])
        self.assertEqual(states.person_after((0,), 0, 10 ** 12), 0)
        self.assertEqual(states.ring_of((0,), 0), (0,))
        self.assertEqual(states.rings((0,)), [(0,)])
        self.assertEqual(states.height((0,), 0), 0)
        self.assertEqual(states.components((0,)), [(0,)])

    def test_rings_and_components_of_different_order(self):
        state = (3, 2, 1, 3)
        self.assertEqual(states.rings(state), [(1, 2), (3,)])
        self.assertEqual(states.components(state), [(0, 3), (1, 2)])

    def test_a_ring_that_does_not_follow_the_numbers(self):
        state = (3, 0, 1, 4, 2)
        self.assertEqual(states.rings(state), [(0, 3, 4, 2, 1)])
        self.assertEqual(states.ring_of(state, 4), (0, 3, 4, 2, 1))
        self.assertEqual(states.way(state, 4), [2, 1, 0, 3, 4])


class NoSuchPerson(ErrorCase):
    def test_every_function_with_a_person(self):
        for state in (samples.RING, samples.LINE, samples.MIXED, (0,), samples.ring_state(40)):
            for person in samples.strangers(state):
                self.check_no_person(person, states.way, state, person)
                self.check_no_person(person, states.ring_of, state, person)
                self.check_no_person(person, states.height, state, person)
                for steps in (0, 1, 10 ** 12):
                    self.check_no_person(person, states.person_after, state, person, steps)


if __name__ == "__main__":
    unittest.main()
