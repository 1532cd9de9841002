"""Point [13]: words that are repeated, against repetitions done one by one."""

import itertools
import random
import unittest

from lookpast import kin, repeats, states
from tests import plain, samples
from tests.cases import ErrorCase

FAR = 10 ** 12


def small_cases():
    """All states of up to three people with all words of up to four calls and some of up to twelve."""
    chosen = random.Random(13)
    for state in samples.small_states(3):
        for length in range(5):
            for word in itertools.product(range(len(state)), repeat=length):
                yield state, list(word)
        for unused in range(40):
            yield state, samples.few_called(range(len(state)), chosen)


def drawn_state(size, chosen):
    """A state of any kind: drawn, or with rings that have people outside."""
    if chosen.random() < 0.5:
        return tuple(chosen.randrange(size) for x in range(size))
    members = chosen.randint(1, size)
    order = list(range(size))
    chosen.shuffle(order)
    state = [order[0]] * size
    for at, person in enumerate(order):
        state[person] = order[(at + 1) % members] if at < members else order[chosen.randrange(at)]
    return tuple(state)


def drawn_cases(sizes, many, most, seed):
    chosen = random.Random(seed)
    for size in sizes:
        for unused in range(many):
            state = drawn_state(size, chosen)
            # If nobody on a ring is called, the rings last, and pointers go on turning along them.
            outside = [x for x in range(size) if not plain.is_on_ring(state, x)]
            yield state, samples.few_called(outside or [0], chosen, most)
            yield state, samples.few_called(range(size), chosen, most)
            yield state, [chosen.randrange(size) for at in range(chosen.randint(0, most))]


def all_cases():
    yield from small_cases()
    yield from drawn_cases(range(4, 13), 60, 12, seed=1)
    yield from drawn_cases([40], 40, 12, seed=2)
    yield from drawn_cases([39, 40], 8, 200, seed=3)


# Word and state with a long beginning or a long period.
SLOW_LINE = (samples.line_state(40), [39])
SLOW_RING = (samples.ring_state(40), [5])
SLOW_LASSO = (samples.lasso_state(40, 3), [0, 4])
WHEELS = samples.spoked_state([3, 5, 7, 8, 11], 1, 40)
WHEEL_WORD = [3, 9, 17, 26, 38]
SPECIAL = (SLOW_LINE, SLOW_RING, SLOW_LASSO, (WHEELS, WHEEL_WORD), (WHEELS, WHEEL_WORD[1:] * 2 + [3] * 6))


class Settles(unittest.TestCase):
    def test_against_repetitions(self):
        longest = slowest = 0
        for state, word in itertools.chain(all_cases(), SPECIAL):
            along, begin = plain.repetitions(state, word)
            expected = (begin, len(along) - begin)
            self.assertEqual(repeats.settles(state, word), expected, (state, word))
            self.assertIs(type(repeats.settles(state, word)), tuple)
            # Guarantee (g) of point [1].
            self.assertLess(begin, 2 * len(state), (state, word))
            slowest = max(slowest, begin)
            longest = max(longest, len(along) - begin)
        self.assertGreater(slowest, 30)
        self.assertEqual(longest, 9240)

    def test_long_beginnings(self):
        self.assertEqual(repeats.settles(*SLOW_LINE), (38, 1))
        self.assertEqual(repeats.settles(*SLOW_RING), (39, 1))
        self.assertEqual(repeats.settles(samples.LINE, [3, 2]), (2, 1))
        self.assertEqual(repeats.settles(samples.line_state(40), list(range(39, 0, -1))), (6, 1))
        self.assertEqual(repeats.settles(samples.line_state(40), list(range(40))), (1, 1))

    def test_long_periods(self):
        self.assertEqual(repeats.settles(WHEELS, WHEEL_WORD), (0, 3 * 5 * 7 * 8 * 11))
        self.assertEqual(repeats.settles(WHEELS, WHEEL_WORD * 2), (0, 3 * 5 * 7 * 4 * 11))
        self.assertEqual(repeats.settles(WHEELS, [3] * 3 + [9] * 5 + [38] * 4), (0, 11))
        self.assertEqual(repeats.settles(WHEELS, [26] * 6), (0, 4))
        two = samples.spoked_state([6], 2, 8)
        self.assertEqual(repeats.settles(two, [6, 6, 7, 7, 7]), (0, 6))

    def test_empty_words(self):
        for state in samples.all_samples():
            self.assertEqual(repeats.settles(state, []), (0, 1))
            self.assertEqual(repeats.turning(state, []), [])
            self.assertEqual(repeats.repeated(state, [], FAR), state)

    def test_what_changes_only_within_a_repetition_does_not_count(self):
        self.assertEqual(repeats.settles((1, 0, 0), [2, 2]), (0, 1))
        self.assertEqual(repeats.turning((1, 0, 0), [2, 2]), [])
        self.assertIsNone(repeats.first_time((1, 0, 0), [2, 2], 2, 1))


class Repeated(unittest.TestCase):
    def numbers(self, begin, period, chosen):
        near = range(min(begin + 2 * period, 12) + 1)
        edges = [begin, begin + 1, begin + period - 1, begin + period, begin + period + 1, FAR, FAR - 1, FAR + 10]
        return list(near) + edges + [chosen.randrange(FAR) for unused in range(3)]

    def test_against_repetitions(self):
        chosen = random.Random(12)
        for state, word in itertools.chain(all_cases(), SPECIAL):
            along, begin = plain.repetitions(state, word)
            period = len(along) - begin
            for many in self.numbers(begin, period, chosen):
                expected = along[many] if many < begin else along[begin + (many - begin) % period]
                found = repeats.repeated(state, word, many)
                self.assertEqual(found, expected, (state, word, many))
                self.assertIs(type(found), tuple)

    def test_none_and_one(self):
        for state, word in drawn_cases([1, 2, 5, 12, 40], 5, 200, seed=4):
            self.assertEqual(repeats.repeated(state, word, 0), state)
            self.assertEqual(repeats.repeated(state, word, 1), plain.call_all(state, word))

    def test_as_one_long_word(self):
        for state, word in drawn_cases([3, 7, 12], 5, 12, seed=5):
            for many in (2, 3, 25, 60):
                self.assertEqual(repeats.repeated(state, word, many), plain.call_all(state, word * many))

    def test_parts_add_up(self):
        for state, word in drawn_cases([4, 9, 40], 10, 30, seed=6):
            part = repeats.repeated(state, word, FAR // 3)
            self.assertEqual(repeats.repeated(part, word, FAR - FAR // 3), repeats.repeated(state, word, FAR))

    def test_numbers_beyond_the_limit(self):
        self.assertEqual(repeats.repeated((1, 0, 0), [2], 10 ** 5000 + 1), (1, 0, 1))
        self.assertEqual(repeats.repeated((1, 0, 0), [2], 10 ** 5000), (1, 0, 0))


class Turning(unittest.TestCase):
    def test_against_repetitions(self):
        some = 0
        for state, word in itertools.chain(all_cases(), SPECIAL):
            along, begin = plain.repetitions(state, word)
            expected = [x for x in range(len(state)) if len({later[x] for later in along[begin:]}) > 1]
            self.assertEqual(repeats.turning(state, word), expected, (state, word))
            some += bool(expected)
        self.assertGreater(some, 500)

    def test_pointers_turn_along_a_ring_by_a_fixed_number_of_steps(self):
        """Guarantee (g) of point [1]."""
        for state, word in drawn_cases([3, 5, 8, 12, 40], 25, 12, seed=7):
            begin, period = repeats.settles(state, word)
            settled = repeats.repeated(state, word, begin)
            for more in (1, 2, 7, FAR):
                later = repeats.repeated(state, word, begin + more)
                for x in range(len(state)):
                    if plain.is_on_ring(settled, x) or not plain.is_on_ring(settled, settled[x]):
                        self.assertEqual(later[x], settled[x])
                    else:
                        self.assertEqual(later[x], plain.follow_far(settled, settled[x], word.count(x) * more))
                self.assertTrue(kin.are_kin(settled, later))
                self.assertEqual(states.rings(settled), states.rings(later))


class FirstTime(unittest.TestCase):
    def check(self, state, word, people):
        along, begin = plain.repetitions(state, word)
        for person in people:
            for target in range(len(state)):
                times = [at for at, later in enumerate(along) if later[person] == target]
                expected = times[0] if times else None
                found = repeats.first_time(state, word, person, target)
                self.assertEqual(found, expected, (state, word, person, target))

    def test_against_repetitions(self):
        chosen = random.Random(14)
        for state, word in small_cases():
            self.check(state, word, range(len(state)))
        for state, word in drawn_cases(range(4, 13), 8, 12, seed=8):
            self.check(state, word, range(len(state)))
        for state, word in drawn_cases([40], 6, 12, seed=9):
            self.check(state, word, sorted(chosen.sample(range(40), 3) + word[:1]))

    def test_special_ones(self):
        for state, word in SPECIAL:
            self.check(state, word, sorted(set(word)))

    def test_late_times(self):
        self.assertEqual(repeats.first_time(*SLOW_LINE, 39, 0), 38)
        self.assertEqual(repeats.first_time(*SLOW_RING, 5, 5), 39)
        self.assertEqual(repeats.first_time(WHEELS, [38] * 3, 38, 27), 0)
        self.assertEqual(repeats.first_time(WHEELS, [38] * 3, 38, 28), 4)
        self.assertIsNone(repeats.first_time(WHEELS, [26] * 6, 26, 19))


class NoSuchPerson(ErrorCase):
    def functions(self):
        return (
            lambda state, word: repeats.repeated(state, word, 0),
            lambda state, word: repeats.repeated(state, word, FAR),
            repeats.settles,
            repeats.turning,
            lambda state, word: repeats.first_time(state, word, 0, 0),
            lambda state, word: repeats.first_time(state, word, -1, len(state)),
            lambda state, word: repeats.first_time(state, word, 0, -7),
        )

    def test_in_the_word_at_any_place(self):
        for function in self.functions():
            for state in (samples.RING, samples.LINE, (0,), samples.ring_state(40)):
                for stranger in samples.strangers(state):
                    self.check_no_person(stranger, function, state, [stranger])
                    self.check_no_person(stranger, function, state, [0, stranger, 0])
                    self.check_no_person(stranger, function, state, [0] * 199 + [stranger])
                    self.check_no_person(stranger, function, state, [stranger, -3, 90])
                self.check_no_person(90, function, state, [0, 90, -1, 91])

    def test_of_person_then_of_target(self):
        for state in (samples.RING, samples.LINE, (0,), samples.ring_state(40)):
            for stranger in samples.strangers(state):
                for word in ([], [0], [0, 0]):
                    self.check_no_person(stranger, repeats.first_time, state, word, stranger, 0)
                    self.check_no_person(stranger, repeats.first_time, state, word, 0, stranger)
                    self.check_no_person(stranger, repeats.first_time, state, word, stranger, -9)
                    self.check_no_person(-9, repeats.first_time, state, word, -9, stranger)


if __name__ == "__main__":
    unittest.main()
