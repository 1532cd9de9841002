"""Point [14]: films, and who was called between two states."""

import itertools
import random
import unittest

from lookpast import calls, films
from lookpast.errors import OtherSize
from tests import plain, samples
from tests.cases import ErrorCase

RING = samples.RING
# A state, one to which it does not lead, and what shows it: one for each kind of obstacle.
GAPS = (
    ((1, 0, 0), RING, ("way", 1)),
    (samples.LINE, (0, 2, 1, 2), ("way", 1)),
    (RING, (0, 1, 0), ("rings", 0, 1)),
    ((1, 2, 3, 0), (1, 0, 3, 2), ("rings", 0, 2)),
    (RING, (2, 0, 1), ("order", 0, 2, 1)),
    ((1, 2, 3, 4, 0), (1, 3, 4, 2, 0), ("order", 0, 3, 2)),
)


def film_from(state, length, chosen):
    """A film without a gap: from each state to the next by some calls, or by none."""
    film = [state]
    while len(film) < length:
        word = [chosen.randrange(len(state)) for unused in range(chosen.randrange(3))]
        film.append(plain.call_all(film[-1], word))
    return film


def plain_gap(film):
    for at, (state, after) in enumerate(zip(film, film[1:])):
        if plain.obstacle(state, after) is not None:
            return at
    return None


class Films(unittest.TestCase):
    def check(self, film, gap, bar):
        self.assertEqual(films.film_gap(film), gap, film)
        self.assertEqual(films.film_bar(film), bar, film)

    def test_one_state(self):
        for state in samples.all_samples():
            self.check([state], None, None)

    def test_without_a_gap(self):
        chosen = random.Random(14)
        for state in samples.large_states():
            self.check(film_from(state, 40, chosen), None, None)
        for state in samples.small_states(3):
            self.check(film_from(state, 6, chosen), None, None)
            self.check([state] * 40, None, None)

    def test_along_a_word(self):
        word = [random.Random(6).randrange(40) for unused in range(39)]
        self.check(calls.states_along(samples.ring_state(40), word), None, None)

    def test_a_gap_at_any_place(self):
        for state, after, bar in GAPS:
            for before in range(5):
                for behind in range(5):
                    film = [state] * (before + 1) + [after] * (behind + 1)
                    self.check(film, before, bar)

    def test_only_the_first_gap_counts(self):
        self.check([RING, (1, 0, 0), RING, (2, 0, 1)], 1, ("way", 1))
        self.check([RING, (2, 0, 1), RING, (0, 1, 0)], 0, ("order", 0, 2, 1))
        self.check([RING, (0, 1, 0), (1, 0, 0), RING], 0, ("rings", 0, 1))

    def test_a_gap_in_long_films(self):
        chosen = random.Random(15)
        for size in (5, 12, 40):
            for place in (0, 1, 17, 38):
                film = film_from(samples.ring_state(size), place + 1, chosen)
                film += film_from(tuple(reversed(range(size))), 39 - place, chosen)
                self.assertEqual(len(film), 40)
                self.check(film, place, plain.obstacle(film[place], film[place + 1]))

    def test_all_films_of_two_people(self):
        every = list(itertools.product(range(2), repeat=2))
        for length in (1, 2, 3, 4):
            for film in itertools.product(every, repeat=length):
                gap = plain_gap(film)
                self.check(list(film), gap, None if gap is None else plain.obstacle(film[gap], film[gap + 1]))

    def test_drawn_films_of_three_people(self):
        chosen = random.Random(16)
        every = list(itertools.product(range(3), repeat=3))
        kinds = set()
        for unused in range(3000):
            film = film_from(chosen.choice(every), chosen.randint(1, 4), chosen) + [chosen.choice(every)]
            gap = plain_gap(film)
            bar = None if gap is None else plain.obstacle(film[gap], film[gap + 1])
            kinds.add(bar and bar[0])
            self.check(film, gap, bar)
        self.assertEqual(kinds, {None, "way", "rings", "order"})


class OtherSizes(ErrorCase):
    def check(self, size, film):
        self.check_raises(OtherSize(size), films.film_gap, film)
        self.check_raises(OtherSize(size), films.film_bar, film)

    def test_at_any_place(self):
        for before in range(1, 5):
            for behind in range(4):
                self.check(2, [RING] * before + [(1, 0)] + [RING] * behind)
                self.check(4, [RING] * before + [samples.LINE] + [(0,)] * behind)
                self.check(1, [RING] * before + [(0,)] + [samples.LINE] * behind)

    def test_ahead_of_any_gap(self):
        for state, after, bar in GAPS:
            self.check(1, [state, after, (0,)])
            self.check(40, [state, after, state, after, samples.ring_state(40), (0,)])
            self.check(len(state) + 1, [state, after, after, tuple(range(len(state) + 1))])


class Callers(ErrorCase):
    def test_all_pairs_of_small_states(self):
        for state, later in samples.small_pairs(3):
            expected = [x for x in range(len(state)) if plain.call(state, x) == later]
            found = films.callers(state, later)
            self.assertEqual(found, expected, (state, later))
            self.assertIs(type(found), list)

    def test_after_each_call(self):
        for state in samples.large_states():
            idle = [x for x in range(len(state)) if state[state[x]] == state[x]]
            self.assertEqual(films.callers(state, state), idle)
            for x in range(len(state)):
                later = plain.call(state, x)
                self.assertEqual(films.callers(state, later), idle if x in idle else [x])

    def test_nobody(self):
        self.assertEqual(films.callers(RING, RING), [])
        self.assertEqual(films.callers(samples.ring_state(40), (0,) * 40), [])
        self.assertEqual(films.callers(samples.LINE, (0, 0, 0, 1)), [])

    def test_other_size(self):
        for state in (RING, samples.LINE, (0,), samples.ring_state(40)):
            for later in ((0, 0), (1, 0, 0, 0, 0), samples.ring_state(39)):
                self.check_raises(OtherSize(len(later)), films.callers, state, later)


if __name__ == "__main__":
    unittest.main()
