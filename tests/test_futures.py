"""Point [7]: the number of futures, and each future by its number."""

import itertools
import math
import unittest

from lookpast import futures, reach
from lookpast.errors import NoNumber, OtherSize, Unreachable
from tests import plain, samples
from tests.cases import ErrorCase


def product_of_futures(state):
    """The product of guarantee (b)."""
    rings = math.prod((len(ring) + 1) ** (len(ring) - 1) for ring in plain.rings(state))
    return rings * math.prod(len(plain.way(state, x)) for x in range(len(state)) if not plain.is_on_ring(state, x))


class Codes(unittest.TestCase):
    def test_against_plain(self):
        for state in samples.all_samples():
            code = futures.code_of(state)
            self.assertIs(type(code), tuple)
            self.assertEqual(code, plain.code(state), state)

    def test_roots_are_rings(self):
        self.assertEqual(futures.code_of((0, 0, 2)), (-1, 0, -1))

    def test_no_two_futures_have_the_same_code(self):
        for state in samples.small_states():
            codes = {futures.code_of(goal) for goal in plain.futures(state)}
            self.assertEqual(len(codes), len(plain.futures(state)))


class Numbers(unittest.TestCase):
    def test_all_futures_of_small_states_in_order(self):
        for state in itertools.chain(samples.small_states(), [samples.ring_state(5), (3, 0, 4, 1, 2), (1, 2, 0, 0, 3)]):
            expected = sorted(plain.futures(state), key=plain.code)
            many = futures.futures_many(state)
            self.assertEqual(many, len(expected), state)
            found = [futures.future_at(state, number) for number in range(many)]
            self.assertEqual(found, expected, state)
            self.assertTrue(all(type(goal) is tuple for goal in found))
            self.assertEqual([futures.number_of(state, goal) for goal in expected], list(range(many)), state)

    def test_many_of_rings(self):
        for size in range(1, 13):
            self.assertEqual(futures.futures_many(samples.ring_state(size)), (size + 1) ** (size - 1))
        self.assertEqual(futures.futures_many(samples.ring_state(40)), 41 ** 39)

    def test_many_of_lines(self):
        for size in range(1, 41):
            self.assertEqual(futures.futures_many(samples.line_state(size)), math.factorial(size - 1))

    def test_many_of_large_states(self):
        for state in samples.large_states():
            self.assertEqual(futures.futures_many(state), product_of_futures(state), state)

    def test_one_future_at_rest(self):
        for state in ((0,), (0, 0, 0), tuple(range(40)), (39,) * 40):
            self.assertEqual(futures.futures_many(state), 1)
            self.assertEqual(futures.future_at(state, 0), state)
            self.assertEqual(futures.number_of(state, state), 0)

    def test_back_and_forth(self):
        for state in samples.large_states():
            many = futures.futures_many(state)
            for number in samples.some_numbers(many):
                goal = futures.future_at(state, number)
                self.assertIsNone(plain.obstacle(state, goal), (state, number))
                self.assertEqual(futures.number_of(state, goal), number, state)

    def test_codes_ascend_with_the_numbers(self):
        for state in samples.large_states():
            many = futures.futures_many(state)
            codes = [plain.code(futures.future_at(state, number)) for number in samples.some_numbers(many)]
            self.assertEqual(codes, sorted(set(codes)), state)

    def test_neighbours_among_great_numbers(self):
        state = samples.ring_state(40)
        for number in (41 ** 20, 41 ** 38 + 17, 41 ** 39 // 3):
            codes = [plain.code(futures.future_at(state, number + more)) for more in range(50)]
            self.assertEqual(codes, sorted(set(codes)))

    def test_futures_by_calls_have_numbers(self):
        for state in samples.large_states():
            for goal in samples.later_states(state):
                number = futures.number_of(state, goal)
                self.assertTrue(0 <= number < futures.futures_many(state))
                self.assertEqual(futures.future_at(state, number), goal)

    def test_both_ends_of_a_great_ring(self):
        state = samples.ring_state(40)
        self.assertEqual(futures.future_at(state, 0), state)
        self.assertEqual(futures.future_at(state, 41 ** 39 - 1), (39,) * 40)
        self.assertEqual(futures.number_of(state, (39,) * 40), 41 ** 39 - 1)

    def test_several_components(self):
        state = (2, 3, 4, 1, 0, 2)
        expected = sorted(plain.futures(state), key=plain.code)
        self.assertEqual([futures.future_at(state, number) for number in range(len(expected))], expected)
        self.assertEqual(futures.futures_many(state), 16 * 3 * 3)


class Errors(ErrorCase):
    def test_no_number(self):
        for state in (samples.RING, samples.MIXED, samples.LINE, (0,), samples.ring_state(40), (0, 0, 2)):
            for number in samples.far_numbers(futures.futures_many(state)):
                self.check_raises(NoNumber(number), futures.future_at, state, number)
                self.check_raises(NoNumber(number), futures.future_at, number=number, state=list(state))

    def test_unreachable(self):
        for state, goal in itertools.chain(samples.small_pairs(3), samples.some_pairs(40, 20)):
            expected = plain.obstacle(state, goal)
            if expected is not None:
                self.check_raises(Unreachable(expected), futures.number_of, state, goal)
                self.assertFalse(reach.leads(state, goal))

    def test_other_size(self):
        for state, goal in ((samples.RING, (1, 0)), ((0,), (1, 0)), (samples.RING, samples.ring_state(41)), ([0], [1, 1])):
            self.check_raises(OtherSize(len(goal)), futures.number_of, state, goal)
            self.check_raises(OtherSize(len(goal)), futures.number_of, goal=goal, state=state)


if __name__ == "__main__":
    unittest.main()
