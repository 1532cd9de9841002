"""The whole program: every function once more for the document's states, and point [1] across modules."""

import itertools
import random
import unittest

from lookpast import (
    calls, common, desk, films, futures, kin, pasts, people, reach, repeats, rests, small, states, texts, wishes,
)
from lookpast.circle import Circle
from tests import plain, samples, test_examples

RING = samples.RING
LINE = samples.LINE
MIXED = samples.MIXED
NOBODY = (None, None, None, None)

# What each function returns for the states of the document's examples, worked out by hand.
RESULTS = (
    (states.is_state, (MIXED,), True),
    (states.way, (MIXED, 2), [0, 1]),
    (states.way, (LINE, 3), [2, 1, 0]),
    (states.person_after, (MIXED, 3, 10 ** 12), 0),
    (states.person_after, (RING, 0, 10 ** 12), 1),
    (states.rings, (MIXED,), [(0, 1)]),
    (states.ring_of, (LINE, 3), (0,)),
    (states.height, (LINE, 3), 3),
    (states.components, (MIXED,), [(0, 1, 2, 3)]),
    (calls.called, (MIXED, 3), (1, 0, 0, 0)),
    (calls.called_all, (MIXED, [2, 3]), (1, 0, 1, 1)),
    (calls.states_along, (MIXED, [0, 1]), [MIXED, (0, 0, 0, 2), (0, 0, 0, 2)]),
    (calls.idle_calls, (MIXED, [0, 1]), [1]),
    (reach.leads, (MIXED, (0, 0, 0, 0)), True),
    (reach.obstacle, (MIXED, (1, 0, 3, 2)), ("way", 2)),
    (reach.is_obstacle, (MIXED, (0, 1, 0, 2), ("rings", 0, 1)), True),
    (reach.is_word_to, (MIXED, (1, 0, 0, 0), [3]), True),
    (futures.code_of, (MIXED,), (-1, -1, 0, 2)),
    (futures.futures_many, (MIXED,), 18),
    (futures.future_at, (MIXED, 17), (1, 1, 1, 2)),
    (futures.number_of, (MIXED, MIXED), 2),
    (rests.is_at_rest, (MIXED,), False),
    (rests.rests_many, (RING,), 3),
    (rests.rest_with, (MIXED, [0]), (0, 0, 0, 0)),
    (rests.fewest_to_rest, (MIXED, [0]), 2),
    (rests.shows_fewest, (MIXED, [0], [0, 3]), True),
    (kin.are_kin, (MIXED, (1, 0, 1, 1)), False),
    (kin.kin_many, (RING,), 1),
    (kin.kin_at, (MIXED, 0), MIXED),
    (kin.kin_number, (MIXED, MIXED), 0),
    (common.future_bar, (MIXED, (0, 0, 2, 2)), ("people", 0)),
    (common.common_future, (MIXED, (1, 1, 1, 1)), (1, 1, 1, 1)),
    (common.past_bar, (MIXED, (1, 1, 1, 1)), None),
    (pasts.ring_pasts_many, (MIXED,), 6),
    (pasts.ring_past_at, (MIXED, 0), (1, 2, 3, 0)),
    (pasts.ring_past_number, (MIXED, (1, 2, 3, 0)), 0),
    (pasts.line_pasts_many, (LINE,), 1),
    (pasts.line_past_at, (LINE, 0), LINE),
    (pasts.line_past_number, (LINE, LINE), 0),
    (wishes.meets, (MIXED, (None, 0, None, 2)), True),
    (wishes.wish_obstacle, (MIXED, (0, 1, None, None)), ("rings", 0, 1)),
    (wishes.pointers_for, (MIXED, NOBODY, 3), [0, 1, 2]),
    (wishes.forced, (MIXED, (0, None, None, None)), (0, 0, None, None)),
    (repeats.repeated, (MIXED, [3], 2), (1, 0, 0, 1)),
    (repeats.settles, (MIXED, [3]), (1, 2)),
    (repeats.turning, (MIXED, [3]), [3]),
    (repeats.first_time, (MIXED, [3], 3, 1), 2),
    (films.film_gap, ([MIXED, (1, 0, 0, 0), MIXED],), 1),
    (films.film_bar, ([MIXED, (1, 0, 0, 0), MIXED],), ("way", 3)),
    (films.callers, (MIXED, (1, 0, 0, 0)), [3]),
    (small.all_futures, (LINE,), [(0, 0, 0, 0), (0, 0, 0, 1), (0, 0, 0, 2), (0, 0, 1, 0), (0, 0, 1, 1), LINE]),
    (small.distance, (MIXED, (0, 0, 0, 0)), 2),
    (small.first_word, (MIXED, (0, 0, 0, 0)), [0, 3]),
    (small.words_many, (MIXED, (0, 0, 0, 0), 2), 2),
    (people.renumbered, (MIXED, (3, 2, 1, 0)), (1, 3, 3, 2)),
    (people.bypassed, (MIXED, 2), (1, 0, 0)),
    (people.joined, (MIXED, (0,)), (1, 0, 0, 2, 4)),
    (people.part_of, (MIXED, 3), MIXED),
    (texts.state_text, (MIXED,), "1 0 0 2"),
    (texts.word_text, ([3, 3],), "3 3"),
    (texts.wish_text, (NOBODY,), "? ? ? ?"),
    (texts.state_in, ("1 0 0 2",), MIXED),
    (texts.word_in, ("3 3",), [3, 3]),
    (texts.wish_in, ("? ? ? ?",), NOBODY),
    (desk.answers, ("1 0 0 2\nmany\nway 3",), ["18", "2 0 1"]),
)
# Where the document leaves a choice, a test of the result.
CHOICES = (
    (reach.word_to, (MIXED, (1, 1, 1, 2)), lambda word: calls.called_all(MIXED, word) == (1, 1, 1, 2)),
    (rests.word_to_rest, (MIXED, [0]), lambda word: sorted(word) == [0, 3]),
    (common.common_past, (MIXED, (1, 1, 1, 1)), lambda past: all(plain.obstacle(past, x) is None for x in (MIXED, (1,) * 4))),
    (wishes.granted, (MIXED, (None, None, 1, 0)), lambda goal: goal in plain.futures(MIXED) and goal[2:] == (1, 0)),
)


def pairs_of_three():
    return samples.small_pairs(3)


class Functions(unittest.TestCase):
    def test_results(self):
        for function, arguments, expected in RESULTS:
            with self.subTest(function.__name__, arguments=arguments):
                found = function(*arguments)
                self.assertEqual(found, expected)
                self.assertIs(type(found), type(expected))

    def test_choices(self):
        for function, arguments, is_right in CHOICES:
            with self.subTest(function.__name__, arguments=arguments):
                self.assertTrue(is_right(function(*arguments)))

    def test_every_function_is_here(self):
        listed = {getattr(module, name) for module, names in test_examples.FUNCTIONS.items() for name in names.split()}
        self.assertEqual({row[0] for row in RESULTS + CHOICES}, listed)


class Guarantees(unittest.TestCase):
    def test_a_futures_and_obstacles(self):
        for state, goal in pairs_of_three():
            is_future = goal in small.all_futures(state)
            self.assertIs(reach.leads(state, goal), is_future)
            self.assertIs(small.distance(state, goal) is not None, is_future)
            self.assertIs(films.film_gap([state, goal]) is None, is_future)
            found = reach.obstacle(state, goal)
            self.assertEqual(wishes.wish_obstacle(state, goal), found)
            self.assertEqual(films.film_bar([state, goal]), found)
            self.assertIs(found is None, is_future)
            if is_future:
                word = reach.word_to(state, goal)
                self.assertTrue(reach.is_word_to(state, goal, word))
                self.assertGreaterEqual(len(word), small.distance(state, goal))
                self.assertIsNone(films.film_gap(calls.states_along(state, word)))
            else:
                self.assertTrue(reach.is_obstacle(state, goal, found))

    def test_b_numbers_of_futures(self):
        for state in itertools.chain(samples.small_states(), [samples.spoked_state([4], 2, 6)]):
            found = small.all_futures(state)
            self.assertEqual(len(found), futures.futures_many(state))
            by_number = [futures.future_at(state, number) for number in range(len(found))]
            self.assertEqual(sorted(by_number), found)
            self.assertEqual(by_number, sorted(found, key=futures.code_of))
            self.assertEqual([futures.number_of(state, goal) for goal in by_number], list(range(len(found))))
            product = 1
            for ring in states.rings(state):
                product *= (len(ring) + 1) ** (len(ring) - 1)
            for person in range(len(state)):
                product *= len(states.way(state, person)) if states.height(state, person) else 1
            self.assertEqual(product, len(found))

    def test_c_fewest_calls_to_rest(self):
        for state in samples.small_states():
            at_rest = [goal for goal in small.all_futures(state) if rests.is_at_rest(goal)]
            self.assertEqual(len(at_rest), rests.rests_many(state))
            for goal in at_rest:
                roots = sorted(set(goal))
                self.assertEqual(rests.rest_with(state, roots), goal)
                astray = [x for x in range(len(state)) if state[x] != goal[x]]
                self.assertEqual(rests.fewest_to_rest(state, roots), len(astray))
                self.assertEqual(small.distance(state, goal), len(astray))
                self.assertTrue(rests.shows_fewest(state, roots, astray))
                self.assertEqual(Circle(state).become(goal), len(astray))

    def test_d_kin(self):
        for one, other in pairs_of_three():
            is_kin = other in small.all_futures(one) and one in small.all_futures(other)
            self.assertIs(kin.are_kin(one, other), is_kin)
            same_rings = states.rings(one) == states.rings(other)
            differ = [x for x in range(len(one)) if one[x] != other[x]]
            turned = all(states.height(one, x) == states.height(other, x) == 1 for x in differ)
            self.assertIs(is_kin, same_rings and turned and states.components(one) == states.components(other))

    def test_e_common_futures_and_pasts(self):
        for one, other in pairs_of_three():
            shared = set(small.all_futures(one)) & set(small.all_futures(other))
            self.assertIs(common.future_bar(one, other) is None, bool(shared))
            if shared:
                self.assertIn(common.common_future(one, other), shared)
            shared = [past for past in plain.pasts(one) if other in small.all_futures(past)]
            self.assertIs(common.past_bar(one, other) is None, bool(shared))
            if shared:
                self.assertIn(common.common_past(one, other), shared)

    def test_f_wishes(self):
        for state in samples.small_states(3):
            found = small.all_futures(state)
            for wish in itertools.product([None] + list(range(len(state))), repeat=len(state)):
                meeting = [goal for goal in found if wishes.meets(goal, wish)]
                self.assertIs(wishes.wish_obstacle(state, wish) is None, bool(meeting))
                if meeting:
                    self.assertIn(wishes.granted(state, wish), meeting)
                    pointers = [sorted({goal[x] for goal in meeting}) for x in range(len(state))]
                    for x, targets in enumerate(pointers):
                        self.assertEqual(wishes.pointers_for(state, wish, x), targets)
                    expected = tuple(targets[0] if len(targets) == 1 else None for targets in pointers)
                    self.assertEqual(wishes.forced(state, wish), expected)

    def test_g_repeated_words(self):
        chosen = random.Random(7)
        for state in itertools.chain(samples.small_states(3), samples.large_states()):
            for unused in range(3):
                word = samples.few_called(range(len(state)), chosen)
                begin, period = repeats.settles(state, word)
                self.assertLess(begin, 2 * len(state))
                settled = repeats.repeated(state, word, begin)
                once = repeats.repeated(settled, word, 1)
                self.assertEqual(repeats.settles(settled, word), (0, period))
                self.assertTrue(kin.are_kin(settled, once))
                self.assertEqual(repeats.repeated(settled, word, period), settled)
                changed = [x for x in range(len(state)) if settled[x] != once[x]]
                self.assertEqual(repeats.turning(state, word), changed)
                if begin > 0:
                    before = repeats.repeated(state, word, begin - 1)
                    self.assertFalse(kin.are_kin(before, calls.called_all(before, word)))

    def test_h_a_circle_and_its_desk(self):
        kept = Circle(MIXED)
        kept.do([("call", 3), ("come", 3), ("run", [4, 4])])
        kept.undo()
        self.assertRaises(LookupError, kept.do, [("leave", 3), ("call", 9)])
        self.assertEqual(kept.state(), (1, 0, 0, 0, 3))
        lines = ["call 3", "come 3", "run 4 4", "undo", "leave 9", "state"]
        self.assertEqual(desk.answers("\n".join(["1 0 0 2"] + lines))[-1], texts.state_text(kept.state()))
        for number in range(futures.futures_many(kept.state())):
            goal = futures.future_at(kept.state(), number)
            twin = kept.twin()
            twin.become(goal)
            self.assertEqual(twin, Circle(goal))
            self.assertEqual(twin.as_of(kept.deeds()), kept)

    def test_a_to_f_for_states_of_forty(self):
        chosen = random.Random(40)
        for state in samples.large_states():
            number = chosen.randrange(futures.futures_many(state))
            goal = futures.future_at(state, number)
            self.assertEqual(futures.number_of(state, goal), number)
            self.assertIsNone(films.film_gap(calls.states_along(state, reach.word_to(state, goal))[::40] + [goal]))
            self.assertIsNone(common.future_bar(state, goal))
            self.assertIsNone(common.past_bar(state, goal))
            self.assertTrue(reach.leads(goal, common.common_future(state, goal)))
            self.assertTrue(reach.leads(common.common_past(state, goal), goal))
            self.assertTrue(wishes.meets(goal, wishes.forced(state, goal)))
            self.assertEqual(kin.are_kin(state, goal), reach.leads(goal, state))
            kept = Circle(state)
            kept.become(goal)
            self.assertEqual([kept.state(), kept.as_of(0).state()], [goal, state])


if __name__ == "__main__":
    unittest.main()
