"""Point [9]: states that lead to each other."""

import itertools
import unittest

from lookpast import kin
from lookpast.errors import NoNumber, NotKin, OtherSize
from tests import plain, samples
from tests.cases import ErrorCase

# Thirty people around a ring of ten, each pointing at a member of it.
CROWD = tuple((x + 1) % 10 if x < 10 else x % 10 for x in range(40))


def kin_by_rule(one, other):
    """Guarantee (d)."""
    if plain.rings(one) != plain.rings(other):
        return False
    for x in range(len(one)):
        if one[x] != other[x]:
            ring = plain.ring_of(one, x)
            if x in ring or one[x] not in ring or other[x] not in ring:
                return False
    return True


class AreKin(unittest.TestCase):
    def test_small_states(self):
        for one, other in samples.small_pairs():
            expected = other in plain.futures(one) and one in plain.futures(other)
            self.assertIs(kin.are_kin(one, other), expected, (one, other))
            self.assertIs(kin_by_rule(one, other), expected, (one, other))

    def test_large_states(self):
        for state in samples.large_states():
            self.assertIs(kin.are_kin(state, state), True)
            for other in samples.later_states(state):
                self.assertIs(kin.are_kin(state, other), kin_by_rule(state, other), (state, other))
        for one, other in samples.some_pairs(40, 40):
            self.assertIs(kin.are_kin(one, other), kin_by_rule(one, other), (one, other))

    def test_turned_pointers(self):
        turned = CROWD[:10] + tuple((x + 3) % 10 for x in range(10, 40))
        self.assertIs(kin.are_kin(CROWD, turned), True)
        self.assertIs(kin.are_kin(CROWD, turned[:39] + (38,)), False)


class Numbers(unittest.TestCase):
    def test_all_kin_of_small_states(self):
        for state in itertools.chain(samples.small_states(), [(1, 0, 0, 1, 2), (1, 2, 0, 0, 2), (1, 0, 1, 3, 3)]):
            expected = plain.kin(state)
            self.assertEqual(kin.kin_many(state), len(expected), state)
            found = [kin.kin_at(state, number) for number in range(len(expected))]
            self.assertEqual(found, expected, state)
            self.assertTrue(all(type(other) is tuple for other in found))
            self.assertEqual([kin.kin_number(state, other) for other in expected], list(range(len(expected))), state)

    def test_large_states(self):
        for state in list(samples.large_states()) + [CROWD]:
            many = kin.kin_many(state)
            found = [kin.kin_at(state, number) for number in samples.some_numbers(many)]
            self.assertEqual(found, sorted(set(found)))
            for number, other in zip(samples.some_numbers(many), found):
                self.assertTrue(kin_by_rule(state, other))
                self.assertEqual(kin.kin_number(state, other), number)

    def test_many(self):
        self.assertEqual(kin.kin_many(CROWD), 10 ** 30)
        self.assertEqual(kin.kin_many(samples.ring_state(40)), 1)
        self.assertEqual(kin.kin_many(samples.line_state(40)), 1)
        self.assertEqual(kin.kin_many(samples.lasso_state(40, 15)), 25)
        self.assertEqual(kin.kin_many((1, 0, 0, 0, 3)), 4)

    def test_ends(self):
        self.assertEqual(kin.kin_at(CROWD, 0), CROWD[:10] + (0,) * 30)
        self.assertEqual(kin.kin_at(CROWD, 10 ** 30 - 1), CROWD[:10] + (9,) * 30)
        self.assertEqual(kin.kin_number(CROWD, CROWD[:10] + (9,) * 30), 10 ** 30 - 1)


class Errors(ErrorCase):
    def test_no_number(self):
        for state in (samples.MIXED, samples.RING, (0,), CROWD, (1, 0, 0, 0)):
            for number in samples.far_numbers(kin.kin_many(state)):
                self.check_raises(NoNumber(number), kin.kin_at, state, number)
                self.check_raises(NoNumber(number), kin.kin_at, number=number, state=list(state))

    def test_not_kin(self):
        for one, other in itertools.chain(samples.small_pairs(3), samples.some_pairs(40, 20)):
            if not kin_by_rule(one, other):
                self.check_raises(NotKin(), kin.kin_number, one, other)
        self.check_raises(NotKin(), kin.kin_number, samples.RING, (1, 0, 0))
        self.check_raises(NotKin(), kin.kin_number, (1, 0, 0), samples.RING)
        self.check_raises(NotKin(), kin.kin_number, state=[1, 0, 0], other=[1, 2, 0])

    def test_other_size(self):
        for one, other in ((samples.RING, (1, 0)), ((0,), (1, 0)), (samples.RING, samples.ring_state(41)), ([0], [1, 1])):
            self.check_raises(OtherSize(len(other)), kin.are_kin, one, other)
            self.check_raises(OtherSize(len(other)), kin.are_kin, other=other, one=one)
            self.check_raises(OtherSize(len(other)), kin.kin_number, one, other)
            self.check_raises(OtherSize(len(other)), kin.kin_number, other=other, state=one)


if __name__ == "__main__":
    unittest.main()
