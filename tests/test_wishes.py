"""Point [12]: wishes about pointers."""

import itertools
import random
import unittest

from lookpast import wishes
from lookpast.errors import Denied, NoPerson, OtherSize
from tests import plain, samples
from tests.cases import ErrorCase

RING = samples.RING
PARTS = (2, 3, 4, 5, 0, 1, 0, 6)
WITH_WISH = (wishes.meets, wishes.wish_obstacle, wishes.granted, wishes.forced)


def all_wishes(size):
    return itertools.product([None] + list(range(size)), repeat=size)


def some_wishes(size, many, chosen):
    for unused in range(many):
        yield tuple(chosen.choice((None, chosen.randrange(size))) for x in range(size))


def searched():
    """States and wishes that are small enough for a search of all futures."""
    chosen = random.Random(13)
    for state in samples.small_states():
        if len(state) < 4:
            yield from ((state, wish) for wish in all_wishes(len(state)))
        else:
            yield from ((state, wish) for wish in some_wishes(4, 60, chosen))
    for state in (samples.ring_state(4), (2, 3, 1, 0), (3, 2, 1, 0), samples.MIXED):
        yield from ((state, wish) for wish in all_wishes(4))
    for state in (samples.ring_state(5), (2, 3, 1, 4, 0), (2, 3, 4, 1, 0)):
        yield from ((state, wish) for wish in some_wishes(5, 400, chosen))


def hidden(pointers, share, chosen):
    """A wish for some of the pointers."""
    return tuple(target if chosen.random() < share else None for target in pointers)


def large():
    """Large states and wishes: of futures, of other states, and of rings that may be out of order."""
    chosen = random.Random(14)
    for state in samples.large_states():
        size = len(state)
        for goal in samples.later_states(state):
            for share in (0.1, 0.5, 0.9, 1):
                yield state, hidden(goal, share, chosen)
                spoilt = list(hidden(goal, share, chosen))
                spoilt[chosen.randrange(size)] = chosen.randrange(size)
                yield state, tuple(spoilt)
    for size in (5, 6, 40):
        for unused in range(20):
            state = samples.turned_ring(size, chosen)
            yield state, samples.turned_ring(size, chosen)
            members = chosen.sample(range(size), chosen.randrange(2, 6))
            wish = [None] * size
            for person, target in zip(members, members[1:] + members[:1]):
                wish[person] = target
            yield state, tuple(wish)
            yield state, hidden(tuple(chosen.randrange(size) for x in range(size)), 0.3, chosen)


def meeting(state, wish):
    """All futures that meet a wish, by search."""
    return [goal for goal in plain.futures(state) if plain.meets(goal, wish)]


class Meets(unittest.TestCase):
    def test_small_states(self):
        for state in samples.small_states(3):
            for wish in all_wishes(len(state)):
                self.assertIs(wishes.meets(state, wish), plain.meets(state, wish), (state, wish))

    def test_large_states(self):
        chosen = random.Random(15)
        for state in samples.large_states():
            wish = list(hidden(state, 0.5, chosen))
            self.assertIs(wishes.meets(state, wish), True)
            self.assertIs(wishes.meets(state, state), True)
            self.assertIs(wishes.meets(state, (None,) * len(state)), True)
            wish[4] = (state[4] + 1) % len(state)
            self.assertIs(wishes.meets(state, wish), False)


class Obstacles(unittest.TestCase):
    def test_against_all_futures(self):
        kinds = set()
        for state, wish in searched():
            found = wishes.wish_obstacle(state, wish)
            self.assertEqual(found, plain.wish_obstacle(state, wish), (state, wish))
            self.assertIs(found is None, meeting(state, wish) != [], (state, wish))
            kinds.add(None if found is None else found[0])
        self.assertEqual(kinds, {None, "way", "rings", "order"})

    def test_large_states(self):
        kinds = set()
        for state, wish in large():
            found = wishes.wish_obstacle(state, wish)
            self.assertEqual(found, plain.wish_obstacle(state, wish), (state, wish))
            kinds.add(None if found is None else found[0])
        self.assertEqual(kinds, {None, "way", "rings", "order"})

    def test_a_wish_with_every_item_is_a_goal(self):
        for state, goal in itertools.chain(samples.small_pairs(3), samples.some_pairs(4, 200)):
            self.assertEqual(wishes.wish_obstacle(state, goal), plain.obstacle(state, goal))

    def test_choice(self):
        self.assertEqual(wishes.wish_obstacle(PARTS, (None, 1, 3, None, None, None, 7, None)), ("way", 2))
        self.assertEqual(wishes.wish_obstacle(PARTS, (0, 1, 2, 3, None, None, None, None)), ("rings", 0, 2))
        self.assertEqual(wishes.wish_obstacle(PARTS, (None, 1, 2, 3, None, None, None, None)), ("rings", 1, 3))
        self.assertEqual(wishes.wish_obstacle(PARTS, (4, 5, 0, 1, 2, 3, None, None)), ("order", 0, 4, 2))
        self.assertEqual(wishes.wish_obstacle(PARTS, (2, 5, None, 1, 4, 3, 4, 0)), ("order", 1, 5, 3))
        self.assertIsNone(wishes.wish_obstacle(PARTS, (2, 3, None, 5, 4, 1, 4, 0)))


class Granted(unittest.TestCase):
    def check_granted(self, state, wish):
        found = wishes.granted(state, wish)
        self.assertIs(type(found), tuple)
        self.assertTrue(plain.meets(found, wish), (state, wish))
        self.assertIsNone(plain.obstacle(state, found), (state, wish))
        self.assertEqual(wishes.granted(list(state), wish=list(wish)), found)
        return found

    def test_small_states(self):
        for state, wish in searched():
            if plain.wish_obstacle(state, wish) is None:
                self.assertIn(self.check_granted(state, wish), plain.futures(state))

    def test_large_states(self):
        for state, wish in large():
            if plain.wish_obstacle(state, wish) is None:
                self.check_granted(state, wish)

    def test_nothing_and_everything(self):
        for state in samples.all_samples():
            self.check_granted(state, (None,) * len(state))
            self.assertEqual(wishes.granted(state, state), state)


class Pointers(unittest.TestCase):
    def test_pointers_for_small_states(self):
        for state, wish in searched():
            goals = meeting(state, wish)
            for person in range(len(state)):
                expected = sorted({goal[person] for goal in goals})
                self.assertEqual(wishes.pointers_for(state, wish, person), expected, (state, wish, person))

    def test_pointers_for_large_states(self):
        chosen = random.Random(16)
        for state, wish in large():
            person = chosen.randrange(len(state))
            expected = []
            for target in range(len(state)):
                asked = wish[:person] + (target,) + wish[person + 1:]
                if wish[person] in (None, target) and plain.wish_obstacle(state, asked) is None:
                    expected.append(target)
            self.assertEqual(wishes.pointers_for(state, wish, person), expected, (state, wish, person))

    def test_no_future_meets_the_wish(self):
        for person in range(3):
            self.assertEqual(wishes.pointers_for(RING, (0, 1, None), person), [])
            self.assertEqual(wishes.pointers_for(RING, (2, 0, 1), person), [])

    def test_nothing_is_wished(self):
        for state in samples.all_samples():
            wish = (None,) * len(state)
            for person in range(len(state)):
                self.assertEqual(wishes.pointers_for(state, wish, person), sorted(plain.way(state, person)))


class Forced(unittest.TestCase):
    def test_small_states(self):
        for state, wish in searched():
            goals = meeting(state, wish)
            if goals:
                columns = [{goal[x] for goal in goals} for x in range(len(state))]
                expected = tuple(min(column) if len(column) == 1 else None for column in columns)
                self.assertEqual(wishes.forced(state, wish), expected, (state, wish))

    def test_large_states(self):
        for state, wish in large():
            if plain.wish_obstacle(state, wish) is None:
                found = wishes.forced(state, wish)
                self.assertIs(type(found), tuple)
                for x in range(len(state)):
                    targets = wishes.pointers_for(state, wish, x)
                    self.assertEqual(found[x], targets[0] if len(targets) == 1 else None)

    def test_some(self):
        for state in samples.all_samples():
            self.assertEqual(wishes.forced(state, state), state)
        self.assertEqual(wishes.forced(samples.LINE, (None,) * 4), (0, 0, None, None))
        self.assertEqual(wishes.forced(RING, (None,) * 3), (None,) * 3)
        self.assertEqual(wishes.forced((0,), (None,)), (0,))
        ring = samples.ring_state(40)
        # Everybody but 39 points at the one below, so the ring is out of order whatever 39 points at but two.
        self.assertEqual(wishes.pointers_for(ring, (39,) + tuple(range(38)) + (None,), 39), [0, 39])


class Errors(ErrorCase):
    def test_denied(self):
        for state, wish in itertools.chain(searched(), large()):
            expected = plain.wish_obstacle(state, wish)
            if expected is not None:
                self.check_raises(Denied(expected), wishes.granted, state, wish)
                self.check_raises(Denied(expected), wishes.forced, state, wish)

    def test_other_size(self):
        for state, wish in ((RING, (1, 0)), (RING, ()), ((0,), (None, None)), (RING, (None,) * 41), ([0], [7, 8, None]),
                            (RING, (0, 1, 2, 3)), (RING, (99, -5, None, 10 ** 30)), (RING, (9, 9))):
            for function in WITH_WISH:
                self.check_raises(OtherSize(len(wish)), function, state, wish)
                self.check_raises(OtherSize(len(wish)), function, wish=wish, state=state)
            for person in [0] + samples.strangers(state):
                self.check_raises(OtherSize(len(wish)), wishes.pointers_for, state, wish, person)

    def test_no_person(self):
        for state, wish in ((RING, (None,) * 3), (RING, (0, 1, None)), (RING, (2, 0, 1)), ((0,), (0,)),
                            (samples.ring_state(40), (None,) * 40)):
            for person in samples.strangers(state):
                self.check_raises(NoPerson(person), wishes.pointers_for, state, wish, person)
                self.check_raises(NoPerson(person), wishes.pointers_for, person=person, wish=list(wish), state=state)


if __name__ == "__main__":
    unittest.main()
