"""Point [5]: calls, one after another."""

import random
import unittest

from lookpast import calls
from tests import plain, samples
from tests.cases import ErrorCase


class Called(unittest.TestCase):
    def test_against_plain(self):
        for state in samples.all_samples():
            for person in range(len(state)):
                self.assertEqual(calls.called(state, person), plain.call(state, person), (state, person))

    def test_only_the_called_pointer_changes(self):
        for state in samples.all_samples():
            for person in range(len(state)):
                after = calls.called(state, person)
                self.assertIsInstance(after, tuple)
                self.assertEqual(after[person], state[state[person]])
                self.assertEqual(after[:person] + after[person + 1:], state[:person] + state[person + 1:])

    def test_nothing_changes_for_who_points_at_a_root(self):
        self.assertEqual(calls.called(samples.LINE, 1), samples.LINE)
        self.assertEqual(calls.called(samples.LINE, 0), samples.LINE)
        self.assertEqual(calls.called((0,), 0), (0,))

    def test_a_member_of_a_ring_of_two_becomes_a_root(self):
        self.assertEqual(calls.called((1, 0), 0), (0, 0))
        self.assertEqual(calls.called((1, 0), 1), (1, 1))


class Words(unittest.TestCase):
    def each(self):
        for state in samples.all_samples():
            for word in samples.words_for(state):
                yield state, word

    def test_called_all(self):
        for state, word in self.each():
            after = calls.called_all(state, word)
            self.assertIsInstance(after, tuple)
            self.assertEqual(after, plain.call_all(state, word), (state, word))

    def test_states_along(self):
        for state, word in self.each():
            expected = [plain.call_all(state, word[:many]) for many in range(len(word) + 1)]
            self.assertEqual(calls.states_along(state, word), expected, (state, word))

    def test_idle_calls(self):
        for state, word in self.each():
            expected = []
            now = state
            for at, person in enumerate(word):
                if plain.call(now, person) == now:
                    expected.append(at)
                now = plain.call(now, person)
            self.assertEqual(calls.idle_calls(state, word), expected, (state, word))

    def test_a_call_is_idle_exactly_if_the_person_points_at_a_root(self):
        for state in samples.all_samples():
            for person in range(len(state)):
                target = state[person]
                expected = [0] if state[target] == target else []
                self.assertEqual(calls.idle_calls(state, [person]), expected, (state, person))

    def test_empty_words(self):
        for state in samples.all_samples():
            self.assertEqual(calls.called_all(state, []), state)
            self.assertEqual(calls.states_along(state, []), [state])
            self.assertEqual(calls.idle_calls(state, []), [])

    def test_every_call_at_rest_is_idle(self):
        self.assertEqual(calls.idle_calls((0, 0, 2), [2, 1, 0, 2, 1]), [0, 1, 2, 3, 4])

    def test_long_words(self):
        chosen = random.Random(4000)
        for state in (samples.ring_state(40), samples.line_state(40), samples.lasso_state(40, 9)):
            word = [chosen.randrange(40) for at in range(4000)]
            along = [state]
            for person in word:
                along.append(plain.call(along[-1], person))
            self.assertEqual(calls.called_all(state, word), along[-1])
            self.assertEqual(calls.states_along(state, word), along)
            idle = [at for at in range(4000) if along[at] == along[at + 1]]
            self.assertEqual(calls.idle_calls(state, word), idle)

    def test_a_person_called_again_turns_along_a_ring(self):
        self.assertEqual(calls.called_all(samples.MIXED, [2] * 3999), (1, 0, 1, 2))
        self.assertEqual(calls.called_all(samples.MIXED, [2] * 4000), samples.MIXED)
        self.assertEqual(calls.idle_calls(samples.MIXED, [2] * 4000), [])


class NoSuchPerson(ErrorCase):
    def test_called(self):
        for state in (samples.RING, samples.LINE, (0,), samples.ring_state(40)):
            for person in samples.strangers(state):
                self.check_no_person(person, calls.called, state, person)

    def test_words(self):
        for function in (calls.called_all, calls.states_along, calls.idle_calls):
            for state in (samples.RING, samples.LINE, (0,), samples.ring_state(40)):
                for person in samples.strangers(state):
                    self.check_no_person(person, function, state, [person])
                    self.check_no_person(person, function, state, [person, 0])
                    self.check_no_person(person, function, state, [0, person, 0])
                    self.check_no_person(person, function, state, [0] * 3999 + [person])

    def test_the_first_one_counts(self):
        for function in (calls.called_all, calls.states_along, calls.idle_calls):
            self.check_no_person(9, function, samples.RING, [0, 9, -1, 3])
            self.check_no_person(-1, function, samples.RING, [-1, 9])
            self.check_no_person(3, function, samples.RING, [2, 1, 3, -7, 3])
            self.check_no_person(10 ** 12, function, samples.RING, [1, 10 ** 12, -7])


if __name__ == "__main__":
    unittest.main()
