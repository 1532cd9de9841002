"""Point [6]: futures, obstacles, and words that lead to a goal."""

import itertools
import random
import unittest

from lookpast import reach
from lookpast.errors import OtherSize, Unreachable
from tests import plain, samples
from tests.cases import ErrorCase

RING = samples.RING
TWO_PARTS = (1, 2, 0, 4, 3, 3, 5, 6)


def forms(size):
    """Every tuple of the three forms, of the people and of integers beside them."""
    integers = range(-1, size + 1)
    for word, many in (("way", 1), ("rings", 2), ("order", 3)):
        for people in itertools.product(integers, repeat=many):
            yield (word,) + people


def large_pairs():
    """Pairs of large states: with futures, with neighbours of futures, and with any other state."""
    chosen = random.Random(6)
    for state in samples.large_states():
        for goal in samples.later_states(state):
            yield state, goal
            other = list(goal)
            other[chosen.randrange(len(goal))] = chosen.randrange(len(goal))
            yield state, tuple(other)
    for size in (5, 6, 40):
        yield from samples.some_pairs(size, 30)
        rings = [samples.turned_ring(size, chosen) for unused in range(6)]
        yield from itertools.product(rings, rings)


class Obstacles(unittest.TestCase):
    def test_leads_to_all_futures_and_to_nothing_else(self):
        for state, goal in samples.small_pairs():
            expected = goal in plain.futures(state)
            self.assertIs(reach.leads(state, goal), expected, (state, goal))

    def test_obstacle_of_small_states(self):
        for state, goal in samples.small_pairs():
            found = reach.obstacle(state, goal)
            self.assertEqual(found, plain.obstacle(state, goal), (state, goal))
            self.assertEqual(found is None, goal in plain.futures(state), (state, goal))

    def test_obstacle_of_rings_of_five(self):
        state = samples.ring_state(5)
        for goal in itertools.product(range(5), repeat=5):
            found = reach.obstacle(state, goal)
            self.assertEqual(found, plain.obstacle(state, goal), goal)
            self.assertEqual(found is None, goal in plain.futures(state), goal)

    def test_obstacle_of_large_states(self):
        kinds = set()
        for state, goal in large_pairs():
            found = reach.obstacle(state, goal)
            self.assertEqual(found, plain.obstacle(state, goal), (state, goal))
            self.assertIs(reach.leads(state, goal), found is None)
            kinds.add(None if found is None else found[0])
        self.assertEqual(kinds, {None, "way", "rings", "order"})

    def test_a_state_leads_to_itself(self):
        for state in samples.all_samples():
            self.assertIsNone(reach.obstacle(state, state))
            self.assertIs(reach.leads(state, state), True)

    def test_the_least_way_comes_before_rings(self):
        self.assertEqual(reach.obstacle((1, 0, 1, 0), (0, 1, 3, 2)), ("way", 2))
        self.assertEqual(reach.obstacle((0, 1, 2), (1, 2, 0)), ("way", 0))

    def test_the_least_pair_of_rings(self):
        self.assertEqual(reach.obstacle(samples.ring_state(4), (0, 2, 1, 3)), ("rings", 0, 1))
        self.assertEqual(reach.obstacle((1, 0, 3, 4, 2), (1, 0, 2, 3, 4)), ("rings", 2, 3))
        self.assertEqual(reach.obstacle((2, 3, 0, 1), (0, 1, 2, 3)), ("rings", 0, 2))

    def test_rings_come_before_order(self):
        state = (1, 2, 0, 4, 3)
        self.assertEqual(reach.obstacle(state, (2, 0, 1, 3, 4)), ("rings", 3, 4))

    def test_the_first_ring_out_of_order(self):
        self.assertEqual(reach.obstacle((2, 3, 4, 5, 0, 1), (4, 5, 0, 1, 2, 3)), ("order", 0, 4, 2))
        self.assertEqual(reach.obstacle((2, 3, 4, 5, 0, 1), (2, 5, 4, 1, 0, 3)), ("order", 1, 5, 3))

    def test_the_first_two_neighbours(self):
        self.assertEqual(reach.obstacle(samples.ring_state(5), (1, 3, 4, 2, 0)), ("order", 0, 3, 2))
        self.assertEqual(reach.obstacle(samples.ring_state(5), (2, 4, 3, 1, 0)), ("order", 0, 3, 1))


class IsObstacle(unittest.TestCase):
    def check_forms(self, state, goal):
        for value in forms(len(state)):
            expected = plain.is_obstacle(state, goal, value)
            self.assertIs(reach.is_obstacle(state, goal, value), expected, (state, goal, value))

    def test_every_tuple_for_small_states(self):
        for state, goal in samples.small_pairs(3):
            self.check_forms(state, goal)

    def test_every_tuple_for_some_states(self):
        for state, goal in samples.some_pairs(4, 60):
            self.check_forms(state, goal)
        chosen = random.Random(3)
        for size in (4, 5):
            for unused in range(12):
                self.check_forms(samples.turned_ring(size, chosen), samples.turned_ring(size, chosen))

    def test_there_is_one_exactly_if_the_state_does_not_lead_to_the_goal(self):
        for state, goal in samples.small_pairs(3):
            found = [value for value in forms(len(state)) if reach.is_obstacle(state, goal, value)]
            self.assertIs(found == [], reach.leads(state, goal), (state, goal))

    def test_the_chosen_one_is_one(self):
        for state, goal in large_pairs():
            found = reach.obstacle(state, goal)
            if found is not None:
                self.assertIs(reach.is_obstacle(state, goal, found), True, (state, goal))
                self.assertIs(reach.is_obstacle(state, goal, list(found)), False)

    def test_pointers_off_the_ways_do_not_hide_other_obstacles(self):
        state, goal = (1, 0, 3, 2), (2, 1, 0, 3)
        self.assertIs(reach.is_obstacle(state, goal, ("way", 0)), True)
        self.assertIs(reach.is_obstacle(state, goal, ("rings", 0, 1)), True)
        self.assertIs(reach.is_obstacle(state, goal, ("rings", 1, 2)), False)
        self.assertIs(reach.is_obstacle(state, goal, ("rings", 2, 3)), True)

    def test_lists_and_other_lengths(self):
        order = ("order", 0, 2, 1)
        goal = (2, 0, 1)
        self.assertIs(reach.is_obstacle(RING, goal, order), True)
        for value in (list(order), order[:3], order[:2], order[:1], order + (1,), order + (None,), (order,), [order],
                      ("order", [0, 2, 1]), ("order", (0, 2, 1)), ("rings", 0, 2, 1), ("way", 0, 2, 1),
                      ("Order", 0, 2, 1), ("order ", 0, 2, 1), (None, 0, 2, 1), (["order"], 0, 2, 1), (0, 2, 1)):
            self.assertIs(reach.is_obstacle(RING, goal, value), False, value)
        for value in (("rings", 0, 1), ("rings", 0, 2)):
            self.assertIs(reach.is_obstacle(RING, (0, 1, 2), value), True)
            self.assertIs(reach.is_obstacle(RING, (0, 1, 2), list(value)), False)
            self.assertIs(reach.is_obstacle(RING, (0, 1, 2), value + (2,)), False)
            self.assertIs(reach.is_obstacle(RING, (0, 1, 2), ("rings", value[2], value[1])), False)
            for word in ("way", "order", "ring", "", None, 0, ("rings",)):
                self.assertIs(reach.is_obstacle(RING, (0, 1, 2), (word,) + value[1:]), False)
        self.assertIs(reach.is_obstacle((0, 1), (1, 0), ("way", 0)), True)
        self.assertIs(reach.is_obstacle((0, 1), (1, 0), ["way", 0]), False)
        self.assertIs(reach.is_obstacle((0, 1), (1, 0), ("way", 0, 0)), False)
        self.assertIs(reach.is_obstacle((0, 1), (1, 0), ("way",)), False)
        for word in ("rings", "order", "ways", "", None, 0, ("way",)):
            self.assertIs(reach.is_obstacle((0, 1), (1, 0), (word, 0)), False)

    def test_booleans_and_other_items(self):
        for wrong in (True, False, None, "0", "1", (0,), [1], (), 10 ** 5000, -10 ** 5000):
            self.assertIs(reach.is_obstacle((0, 1), (1, 0), ("way", wrong)), False)
            self.assertIs(reach.is_obstacle(RING, (0, 1, 2), ("rings", wrong, 2)), False)
            self.assertIs(reach.is_obstacle(RING, (0, 1, 2), ("rings", 0, wrong)), False)
            for at in (1, 2, 3):
                value = ["order", 0, 2, 1]
                value[at] = wrong
                self.assertIs(reach.is_obstacle(RING, (2, 0, 1), tuple(value)), False)

    def test_odd_values(self):
        for state, goal in ((RING, (2, 0, 1)), (RING, RING), ((0,), (0,)), ((0, 1), (1, 0))):
            for value in samples.ODD_VALUES:
                self.assertIs(reach.is_obstacle(state, goal, value), False)


class Words(unittest.TestCase):
    def check_word(self, state, goal):
        word = reach.word_to(state, goal)
        self.assertIs(type(word), list)
        self.assertLessEqual(len(word), 2 * len(state) ** 2, (state, goal))
        self.assertTrue(all(type(person) is int and 0 <= person < len(state) for person in word))
        self.assertEqual(plain.call_all(state, word), goal, (state, goal))
        self.assertEqual(reach.word_to(list(state), goal=list(goal)), word)
        self.assertIs(reach.is_word_to(state, goal, word), True)

    def test_all_futures_of_small_states(self):
        for state in samples.small_states():
            for goal in plain.futures(state):
                self.check_word(state, goal)

    def test_all_futures_of_five(self):
        for state in (samples.ring_state(5), (2, 3, 1, 4, 0), samples.lasso_state(5, 1), samples.line_state(5)):
            for goal in plain.futures(state):
                self.check_word(state, goal)

    def test_large_states(self):
        for state in samples.large_states():
            for goal in samples.later_states(state):
                self.check_word(state, goal)

    def test_long_turns(self):
        size = samples.LIMIT
        for state in (samples.ring_state(size), samples.lasso_state(size, 0), samples.lasso_state(size, size // 2)):
            for root in range(size // 2, size):
                self.check_word(state, (root,) * size)
        self.check_word(samples.line_state(size), (0,) * size)
        self.check_word(samples.ring_state(size), (1, 1) + tuple(range(1, size - 1)))
        self.check_word(samples.ring_state(size), tuple(min(x + 1, size - 1) for x in range(size)))

    def test_several_components(self):
        for goal in samples.later_states(TWO_PARTS):
            self.check_word(TWO_PARTS, goal)

    def test_no_calls_are_needed_to_stay(self):
        for state in samples.all_samples():
            self.assertEqual(plain.call_all(state, reach.word_to(state, state)), state)


class IsWordTo(unittest.TestCase):
    def test_every_short_word(self):
        for state in samples.small_states(3):
            for length in range(4):
                for word in itertools.product(range(len(state)), repeat=length):
                    after = plain.call_all(state, word)
                    for goal in (state, after, (0,) * len(state)):
                        self.assertIs(reach.is_word_to(state, goal, list(word)), goal == after, (state, goal, word))

    def test_the_empty_list(self):
        for state in samples.all_samples():
            self.assertIs(reach.is_word_to(state, state, []), True)
            self.assertIs(reach.is_word_to(state, state, ()), False)
        self.assertIs(reach.is_word_to(RING, (1, 0, 0), []), False)

    def test_thousands_of_calls(self):
        chosen = random.Random(9)
        for state in (samples.ring_state(40), samples.lasso_state(40, 11), samples.MIXED):
            for length in (4000, 20000):
                word = [chosen.randrange(len(state)) for at in range(length)]
                after = plain.call_all(state, word)
                self.assertIs(reach.is_word_to(state, after, word), True)
                self.assertIs(reach.is_word_to(state, after, tuple(word)), False)
                self.assertIs(reach.is_word_to(state, after, word + [len(state)]), False)
                self.assertIs(reach.is_word_to(state, after, word + [True]), False)
        self.assertIs(reach.is_word_to(samples.MIXED, (1, 0, 1, 2), [2] * 3999), True)
        self.assertIs(reach.is_word_to(samples.MIXED, (1, 0, 1, 2), [2] * 4000), False)

    def test_integers_that_are_not_people(self):
        for stranger in samples.strangers(RING):
            self.assertIs(reach.is_word_to(RING, (1, 0, 0), [stranger]), False)
            self.assertIs(reach.is_word_to(RING, (1, 0, 0), [1, stranger]), False)
        self.assertIs(reach.is_word_to(RING, (1, 0, 0), [-2]), False)

    def test_other_values(self):
        self.assertIs(reach.is_word_to(RING, (1, 0, 0), [1]), True)
        for value in ((1,), [True], [1, None], [None], ["1"], "1", [[1]], [(1,)], 1, None, True, [1, []]):
            self.assertIs(reach.is_word_to(RING, (1, 0, 0), value), False, value)
        for state, goal in ((RING, (1, 0, 0)), ((1, 0), (1, 1)), (samples.LINE, (0, 0, 0, 0))):
            for value in samples.ODD_VALUES:
                self.assertIs(reach.is_word_to(state, goal, value), False)

    def test_booleans_are_no_people(self):
        self.assertIs(reach.is_word_to((0, 0), (0, 0), [1, 0]), True)
        self.assertIs(reach.is_word_to((0, 0), (0, 0), [True, 0]), False)
        self.assertIs(reach.is_word_to((0, 0), (0, 0), [1, False]), False)


class Errors(ErrorCase):
    def test_unreachable(self):
        for state, goal in itertools.chain(samples.small_pairs(3), large_pairs()):
            expected = plain.obstacle(state, goal)
            if expected is not None:
                self.check_raises(Unreachable(expected), reach.word_to, state, goal)
                self.check_raises(Unreachable(expected), reach.word_to, list(state), goal=list(goal))

    def test_other_size(self):
        for state, goal in ((RING, (1, 0)), ((0,), (1, 0)), (RING, (0, 1, 2, 3)), (samples.ring_state(40), (0,)),
                            (RING, samples.ring_state(41)), ([0], [1, 0]), (RING, (0, 0, 0, 0))):
            error = OtherSize(len(goal))
            for function in (reach.leads, reach.obstacle, reach.word_to):
                self.check_raises(error, function, state, goal)
                self.check_raises(error, function, goal=goal, state=state)
            for value in ([], None, ("way", 0), [0], "x", [99]):
                self.check_raises(error, reach.is_obstacle, state, goal, value)
                self.check_raises(error, reach.is_word_to, state, goal, value)


if __name__ == "__main__":
    unittest.main()
