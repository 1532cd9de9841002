"""Point [15]: the search of small states, against a search layer by layer in the test."""

import itertools
import random
import unittest

from lookpast import futures, small
from lookpast.errors import OtherSize, TooMany
from tests import plain, samples
from tests.cases import ErrorCase

# 2000 futures: 5 ** 3 of a ring of four, and ways of four people from two outside.
FULL = samples.spoked_state([4], 2, 6)
FULL_OF_FORTY = samples.spoked_state([4], 2, 40)
# 2 ** 11 futures: eleven people have ways of two.
JUST_ABOVE = (0, 0) + (1,) * 11
JUST_ABOVE_OF_FORTY = JUST_ABOVE + tuple(range(13, 40))


def other_goals(state, chosen, many=3):
    """Some states of as many people to which a state does not lead."""
    found = plain.futures(state)
    goals = [tuple(chosen.randrange(len(state)) for x in state) for unused in range(many)]
    return [goal for goal in goals if goal not in found]


class Futures(unittest.TestCase):
    def test_most(self):
        self.assertEqual(small.MOST, 2000)
        self.assertIs(type(small.MOST), int)

    def test_small_states(self):
        for state in samples.small_states():
            found = small.all_futures(state)
            self.assertEqual(found, sorted(plain.futures(state)), state)
            self.assertIs(type(found), list)

    def test_at_the_limit(self):
        for state in (FULL, FULL_OF_FORTY):
            found = small.all_futures(state)
            self.assertEqual(len(found), 2000)
            self.assertEqual(found, sorted(futures.future_at(state, number) for number in range(2000)))

    def test_states_of_forty_people(self):
        self.assertEqual(small.all_futures(tuple(range(40))), [tuple(range(40))])
        line = samples.line_state(7) + tuple(range(7, 40))
        self.assertEqual(len(small.all_futures(line)), 720)
        self.assertEqual(small.all_futures(line), sorted(plain.futures(line)))

    def test_by_tuples_and_not_by_codes(self):
        found = small.all_futures(samples.RING)
        self.assertEqual(found, sorted(found))
        self.assertNotEqual(found, [futures.future_at(samples.RING, number) for number in range(16)])


class Shortest(unittest.TestCase):
    def check(self, state, goal, word):
        found = small.first_word(state, goal)
        self.assertEqual(found, word, (state, goal))
        self.assertEqual(small.distance(state, goal), None if word is None else len(word), (state, goal))

    def test_small_states(self):
        chosen = random.Random(15)
        for state in samples.small_states():
            for goal, word in plain.first_words(state).items():
                self.check(state, goal, word)
            for goal in other_goals(state, chosen):
                self.check(state, goal, None)

    def test_all_pairs_of_three_people(self):
        for state, goal in samples.small_pairs(3):
            self.check(state, goal, plain.first_words(state).get(goal))

    def test_against_all_words(self):
        for state in samples.small_states(3):
            for goal in plain.futures(state):
                size = small.distance(state, goal)
                words = [list(word) for word in itertools.product(range(len(state)), repeat=size)]
                leading = [word for word in words if plain.call_all(state, word) == goal]
                self.assertEqual(small.first_word(state, goal), min(leading))
                for less in range(size):
                    for word in itertools.product(range(len(state)), repeat=less):
                        self.assertNotEqual(plain.call_all(state, word), goal)

    def test_at_the_limit(self):
        chosen = random.Random(16)
        for state in (FULL, FULL_OF_FORTY):
            words = plain.first_words(state)
            self.assertEqual(len(words), 2000)
            for goal in chosen.sample(sorted(words), 12):
                self.check(state, goal, words[goal])
            self.check(state, (5,) * len(state), None)

    def test_itself(self):
        for state in (FULL, FULL_OF_FORTY, (0,), samples.RING, tuple(range(40))):
            self.check(state, state, [])


class Words(unittest.TestCase):
    def test_all_words_of_few_calls(self):
        for state in samples.small_states(3):
            for size in range(5):
                words = itertools.product(range(len(state)), repeat=size)
                ends = [plain.call_all(state, word) for word in words]
                for goal in itertools.product(range(len(state)), repeat=len(state)):
                    self.assertEqual(small.words_many(state, goal, size), ends.count(goal), (state, goal, size))

    def test_sizes_0_to_20(self):
        chosen = random.Random(17)
        for state in samples.small_states():
            counts = plain.words_many(state, 20)
            goals = sorted(plain.futures(state))
            for goal in chosen.sample(goals, min(4, len(goals))) + [state] + other_goals(state, chosen, 1):
                for size in chosen.sample(range(21), 3) + [0, 20]:
                    expected = counts[size].get(goal, 0)
                    self.assertEqual(small.words_many(state, goal, size), expected, (state, goal, size))

    def test_every_size(self):
        for state, goal in ((samples.RING, (0, 0, 0)), (samples.MIXED, (1, 0, 1, 1)), (samples.LINE, (0, 0, 0, 0))):
            counts = plain.words_many(state, 22)
            for size in range(23):
                self.assertEqual(small.words_many(state, goal, size), counts[size].get(goal, 0))

    def test_together_they_are_all_words(self):
        for state in samples.small_states(3):
            total = sum(small.words_many(state, goal, 7) for goal in small.all_futures(state))
            self.assertEqual(total, len(state) ** 7)

    def test_at_the_limit(self):
        for state in (FULL, FULL_OF_FORTY):
            counts = plain.words_many(state, 6)
            for goal in sorted(counts[6])[::200]:
                self.assertEqual(small.words_many(state, goal, 6), counts[6][goal])
            self.assertEqual(small.words_many(state, (5,) * len(state), 20), 0)

    def test_everybody_idle(self):
        for state in ((0,), tuple(range(40)), (7,) * 40):
            self.assertEqual(small.words_many(state, state, 20), len(state) ** 20)
            self.assertEqual(small.words_many(state, state, 0), 1)

    def test_fewer_calls_than_the_distance(self):
        self.assertEqual([small.words_many(samples.RING, (0, 0, 0), size) for size in (0, 1)], [0, 0])
        self.assertEqual([small.words_many(samples.RING, samples.RING, size) for size in (0, 1)], [1, 0])


class Errors(ErrorCase):
    def check_too_many(self, many, state):
        self.assertEqual(futures.futures_many(state), many)
        self.check_raises(TooMany(many), small.all_futures, state)
        for goal in (state, (0,) * len(state), tuple(range(len(state)))):
            self.check_raises(TooMany(many), small.distance, state, goal)
            self.check_raises(TooMany(many), small.first_word, state, goal)
            for size in (0, 1, 20):
                self.check_raises(TooMany(many), small.words_many, state, goal, size)

    def test_just_above(self):
        self.check_too_many(2048, JUST_ABOVE)
        self.check_too_many(2048, JUST_ABOVE_OF_FORTY)
        self.check_too_many(2500, (1, 2, 3, 0, 0, 4))

    def test_far_above(self):
        self.check_too_many(7 ** 5, samples.ring_state(6))
        self.check_too_many(41 ** 39, samples.ring_state(40))
        self.check_too_many(3 ** 20, tuple(reversed(range(40))))

    def test_the_first_state_counts(self):
        self.assertIsNone(small.distance((0,) * 13, JUST_ABOVE))
        self.assertEqual(small.words_many((0,) * 40, samples.ring_state(40), 3), 0)
        self.check_raises(TooMany(2048), small.distance, JUST_ABOVE, (0,) * 13)

    def test_other_size_comes_first(self):
        for state in (samples.RING, (0,), JUST_ABOVE, FULL, FULL_OF_FORTY, samples.ring_state(40)):
            for goal in ((0, 0), samples.LINE, samples.ring_state(39)):
                error = OtherSize(len(goal))
                self.check_raises(error, small.distance, state, goal)
                self.check_raises(error, small.first_word, state, goal)
                self.check_raises(error, small.words_many, state, goal, 3)


if __name__ == "__main__":
    unittest.main()
