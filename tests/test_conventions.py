"""Point [2]: kinds of arguments, names, and nothing that is changed."""

import copy
import inspect
import unittest

from lookpast import (
    calls, common, desk, films, futures, kin, pasts, people, reach, repeats, rests, small, states, texts, wishes,
)
from lookpast.errors import NoPerson
from tests import samples

RING = samples.RING
LINE = samples.LINE
MIXED = samples.MIXED
PARTS = (1, 2, 0, 4, 3, 3, 6, 6)

QUERIES = (
    (states.is_state, {"value": RING}),
    (states.is_state, {"value": list(RING)}),
    (states.way, {"state": MIXED, "person": 3}),
    (states.way, {"state": RING, "person": 0}),
    (states.way, {"state": RING, "person": 3}),
    (states.person_after, {"state": MIXED, "person": 3, "steps": 10 ** 12}),
    (states.person_after, {"state": LINE, "person": 3, "steps": 2}),
    (states.rings, {"state": (1, 0, 2, 2)}),
    (states.ring_of, {"state": MIXED, "person": 3}),
    (states.height, {"state": LINE, "person": 3}),
    (states.components, {"state": (3, 2, 1, 3)}),
    (calls.called, {"state": LINE, "person": 3}),
    (calls.called, {"state": LINE, "person": 1}),
    (calls.called_all, {"state": RING, "word": [0, 1, 1, 2]}),
    (calls.called_all, {"state": RING, "word": []}),
    (calls.called_all, {"state": RING, "word": [0, 7, -1]}),
    (calls.states_along, {"state": LINE, "word": [3, 1, 2]}),
    (calls.states_along, {"state": LINE, "word": []}),
    (calls.idle_calls, {"state": LINE, "word": [3, 1, 2, 0]}),
    (reach.leads, {"state": RING, "goal": (1, 0, 0)}),
    (reach.leads, {"state": RING, "goal": (2, 0, 1)}),
    (reach.leads, {"state": RING, "goal": (0, 0)}),
    (reach.obstacle, {"state": LINE, "goal": (0, 2, 1, 2)}),
    (reach.obstacle, {"state": RING, "goal": (0, 1, 0)}),
    (reach.obstacle, {"state": RING, "goal": (2, 0, 1)}),
    (reach.obstacle, {"state": RING, "goal": RING}),
    (reach.is_obstacle, {"state": RING, "goal": (2, 0, 1), "value": ("order", 1, 0, 2)}),
    (reach.is_obstacle, {"state": RING, "goal": (2, 0, 1), "value": ["order", 1, 0, 2]}),
    (reach.word_to, {"state": PARTS, "goal": (2, 2, 2, 4, 4, 4, 6, 6)}),
    (reach.word_to, {"state": samples.lasso_state(40, 20), "goal": (39,) * 40}),
    (reach.word_to, {"state": RING, "goal": (2, 0, 1)}),
    (reach.is_word_to, {"state": RING, "goal": (1, 0, 0), "value": [1]}),
    (reach.is_word_to, {"state": RING, "goal": (1, 0, 0), "value": (1,)}),
    (futures.code_of, {"state": MIXED}),
    (futures.futures_many, {"state": MIXED}),
    (futures.future_at, {"state": MIXED, "number": 11}),
    (futures.future_at, {"state": samples.ring_state(40), "number": 40 ** 38}),
    (futures.future_at, {"state": MIXED, "number": 18}),
    (futures.number_of, {"state": MIXED, "goal": (1, 1, 1, 1)}),
    (futures.number_of, {"state": RING, "goal": (2, 0, 1)}),
    (rests.is_at_rest, {"state": (0, 0, 2)}),
    (rests.is_at_rest, {"state": MIXED}),
    (rests.rests_many, {"state": PARTS}),
    (rests.rest_with, {"state": PARTS, "roots": [6, 2, 3]}),
    (rests.rest_with, {"state": PARTS, "roots": [6, 2, 7]}),
    (rests.fewest_to_rest, {"state": PARTS, "roots": [6, 2, 3]}),
    (rests.word_to_rest, {"state": PARTS, "roots": [6, 2, 3]}),
    (rests.shows_fewest, {"state": PARTS, "roots": [6, 2, 3], "value": [0, 2, 3]}),
    (rests.shows_fewest, {"state": PARTS, "roots": [6, 2, 3], "value": (0, 2, 3)}),
    (kin.are_kin, {"one": MIXED, "other": (1, 0, 1, 2)}),
    (kin.are_kin, {"one": MIXED, "other": (1, 0)}),
    (kin.kin_many, {"state": MIXED}),
    (kin.kin_at, {"state": MIXED, "number": 1}),
    (kin.kin_at, {"state": MIXED, "number": 2}),
    (kin.kin_number, {"state": MIXED, "other": (1, 0, 1, 2)}),
    (kin.kin_number, {"state": MIXED, "other": (1, 0, 1, 1)}),
    (common.future_bar, {"one": (0, 0, 2), "other": (0, 1, 1)}),
    (common.future_bar, {"one": (0, 0), "other": (1, 1)}),
    (common.future_bar, {"one": RING, "other": (1, 0, 0)}),
    (common.common_future, {"one": RING, "other": (1, 0, 0)}),
    (common.common_future, {"one": (0, 0), "other": (1, 1)}),
    (common.past_bar, {"one": RING, "other": (2, 0, 1)}),
    (common.past_bar, {"one": RING, "other": (1, 0, 0)}),
    (common.common_past, {"one": (1, 2, 0, 0, 0, 0), "other": (3, 3, 3, 4, 5, 3)}),
    (common.common_past, {"one": PARTS, "other": (2, 2, 2, 4, 4, 4, 7, 7)}),
    (common.common_past, {"one": RING, "other": (2, 0, 1)}),
    (pasts.ring_pasts_many, {"state": MIXED}),
    (pasts.ring_past_at, {"state": MIXED, "number": 3}),
    (pasts.ring_past_at, {"state": (0,) * 40, "number": 30 ** 28}),
    (pasts.ring_past_at, {"state": MIXED, "number": 6}),
    (pasts.ring_past_number, {"state": MIXED, "past": (1, 3, 0, 2)}),
    (pasts.ring_past_number, {"state": MIXED, "past": MIXED}),
    (pasts.line_pasts_many, {"state": (0, 0, 0, 1)}),
    (pasts.line_past_at, {"state": (0, 0, 0, 1), "number": 1}),
    (pasts.line_past_at, {"state": RING, "number": 0}),
    (pasts.line_past_number, {"state": (0, 0, 0, 1), "past": (0, 0, 3, 1)}),
    (pasts.line_past_number, {"state": (0, 0, 0, 1), "past": (0, 0)}),
    (wishes.meets, {"state": (1, 0, 1), "wish": (None, None, 1)}),
    (wishes.wish_obstacle, {"state": RING, "wish": (0, 1, None)}),
    (wishes.wish_obstacle, {"state": RING, "wish": (None, None, 1)}),
    (wishes.wish_obstacle, {"state": RING, "wish": (None,)}),
    (wishes.granted, {"state": PARTS, "wish": (None, None, None, None, None, 4, None, 7)}),
    (wishes.granted, {"state": PARTS, "wish": (None, None, 2, None, None, 4, None, None)}),
    (wishes.granted, {"state": RING, "wish": (2, 0, 1)}),
    (wishes.pointers_for, {"state": RING, "wish": (1, None, 0), "person": 1}),
    (wishes.pointers_for, {"state": RING, "wish": (1, None, 0), "person": 2}),
    (wishes.pointers_for, {"state": RING, "wish": (1, None, 0), "person": 3}),
    (wishes.forced, {"state": RING, "wish": (1, None, 2)}),
    (wishes.forced, {"state": RING, "wish": (None, None, None)}),
    (repeats.repeated, {"state": (1, 0, 0), "word": [2], "many": 10 ** 12 - 1}),
    (repeats.repeated, {"state": LINE, "word": [3, 2], "many": 1}),
    (repeats.repeated, {"state": LINE, "word": [3, 4, 5], "many": 0}),
    (repeats.settles, {"state": (1, 2, 0, 0), "word": [3, 3]}),
    (repeats.settles, {"state": RING, "word": [-1]}),
    (repeats.turning, {"state": (1, 2, 0, 0, 1), "word": [3, 3, 4]}),
    (repeats.turning, {"state": RING, "word": [0, 1, 2, 3]}),
    (repeats.first_time, {"state": (1, 2, 0, 0), "word": [3, 3], "person": 3, "target": 1}),
    (repeats.first_time, {"state": LINE, "word": [3], "person": 3, "target": 0}),
    (repeats.first_time, {"state": LINE, "word": [], "person": 3, "target": 1}),
    (repeats.first_time, {"state": LINE, "word": [], "person": 4, "target": 5}),
    (films.film_gap, {"film": [RING, (1, 0, 0), RING]}),
    (films.film_gap, {"film": [RING, (1, 0, 0), (0, 0, 0)]}),
    (films.film_gap, {"film": [RING, (1, 0, 0), (0, 0)]}),
    (films.film_bar, {"film": [RING, (1, 0, 0), RING]}),
    (films.film_bar, {"film": [RING]}),
    (films.film_bar, {"film": [RING, (0,), (0, 0)]}),
    (films.callers, {"state": RING, "later": (1, 0, 0)}),
    (films.callers, {"state": (0, 0, 2), "later": (0, 0, 2)}),
    (films.callers, {"state": RING, "later": (1, 0)}),
    (small.all_futures, {"state": MIXED}),
    (small.all_futures, {"state": samples.ring_state(40)}),
    (small.distance, {"state": RING, "goal": (0, 0, 0)}),
    (small.distance, {"state": (1, 0, 0), "goal": RING}),
    (small.distance, {"state": samples.ring_state(40), "goal": samples.ring_state(40)}),
    (small.first_word, {"state": MIXED, "goal": (1, 1, 1, 1)}),
    (small.first_word, {"state": RING, "goal": (0, 0)}),
    (small.words_many, {"state": MIXED, "goal": (1, 1, 1, 1), "size": 20}),
    (small.words_many, {"state": samples.ring_state(6), "goal": (0,) * 6, "size": 1}),
    (people.renumbered, {"state": MIXED, "numbers": (3, 2, 1, 0)}),
    (people.bypassed, {"state": MIXED, "person": 2}),
    (people.bypassed, {"state": MIXED, "person": 4}),
    (people.bypassed, {"state": LINE, "person": 0}),
    (people.joined, {"one": MIXED, "other": RING}),
    (people.part_of, {"state": PARTS, "person": 5}),
    (people.part_of, {"state": PARTS, "person": 8}),
    (texts.state_text, {"state": MIXED}),
    (texts.word_text, {"word": [7, 0]}),
    (texts.word_text, {"word": []}),
    (texts.wish_text, {"wish": (None, 0, None)}),
    (texts.state_in, {"text": "1 0 0 2"}),
    (texts.state_in, {"text": "1 0 0 4"}),
    (texts.word_in, {"text": "7 0"}),
    (texts.word_in, {"text": "-"}),
    (texts.word_in, {"text": "7 -"}),
    (texts.wish_in, {"text": "? 0"}),
    (texts.wish_in, {"text": "-"}),
    (desk.answers, {"text": "1 2 0\nundo\ncall 1\nstate\ncall 3"}),
    (desk.answers, {"text": "1 2 0"}),
    (desk.answers, {"text": "1 2 0\ncall 1\n"}),
)


def swapped(value):
    """The same value with lists in place of tuples and tuples in place of lists."""
    if isinstance(value, tuple):
        return [swapped(item) for item in value]
    if isinstance(value, list):
        return tuple(swapped(item) for item in value)
    return value


def all_swapped(named):
    """The same arguments, swapped, but for a parameter called value, of which the kind counts."""
    return {name: given if name == "value" else swapped(given) for name, given in named.items()}


def kinds(value):
    """A value together with the kinds of all its parts."""
    if isinstance(value, (list, tuple)):
        return type(value), [kinds(item) for item in value]
    return type(value), value


def outcome(function, *arguments, **named):
    """What a query returns or raises, with the kinds of all parts."""
    try:
        return kinds(function(*arguments, **named))
    except (LookupError, ValueError, RuntimeError, OverflowError) as error:
        return type(error), {name: kinds(value) for name, value in vars(error).items()}


class Arguments(unittest.TestCase):
    def each(self):
        for function, named in QUERIES:
            with self.subTest(function.__name__, **named):
                yield function, named, outcome(function, *named.values())

    def test_names_and_their_order(self):
        for function, named, expected in self.each():
            self.assertEqual(list(inspect.signature(function).parameters), list(named))

    def test_by_name(self):
        for function, named, expected in self.each():
            self.assertEqual(outcome(function, **named), expected)
            backwards = dict(reversed(list(named.items())))
            self.assertEqual(outcome(function, **backwards), expected)

    def test_other_kinds_of_sequences(self):
        for function, named, expected in self.each():
            others = all_swapped(named)
            self.assertEqual(outcome(function, **others), expected)
            self.assertEqual(outcome(function, *others.values()), expected)

    def test_arguments_are_not_changed(self):
        for function, named, expected in self.each():
            for passed in (copy.deepcopy(named), all_swapped(named)):
                before = copy.deepcopy(passed)
                outcome(function, **passed)
                self.assertEqual(kinds(list(passed.values())), kinds(list(before.values())))

    def test_the_same_query_again(self):
        for function, named, expected in self.each():
            for unused in range(3):
                self.assertEqual(outcome(function, **named), expected)

    def test_a_returned_list_belongs_to_the_caller(self):
        for function, named, expected in self.each():
            for passed in (dict(named), all_swapped(named)):
                if expected[0] is list:
                    result = function(**passed)
                    result.append("more")
                    result[0] = "other"
                    self.assertIsNot(function(**passed), result)
                    self.assertEqual(outcome(function, **passed), expected)

    def test_later_changes_of_an_argument_do_not_reach_a_result(self):
        state = list(samples.LINE)
        along = calls.states_along(state, [3])
        once = calls.called(state, 1)
        state[0] = 2
        self.assertEqual(along, [(0, 0, 1, 2), (0, 0, 1, 1)])
        self.assertEqual(once, (0, 0, 1, 2))

    def test_one_list_as_state_and_word(self):
        both = [1, 2, 0]
        self.assertEqual(calls.called_all(both, both), (0, 0, 1))
        self.assertEqual(both, [1, 2, 0])

    def test_one_list_as_state_and_goal(self):
        both = [1, 2, 0]
        self.assertIsNone(reach.obstacle(both, both))
        self.assertEqual(calls.called_all(both, reach.word_to(both, both)), (1, 2, 0))
        self.assertEqual(futures.number_of(both, both), 0)
        self.assertEqual(kin.kin_number(both, both), 0)
        self.assertEqual(pasts.ring_past_number(both, both), 0)
        self.assertEqual(common.common_past(both, both), (1, 2, 0))
        self.assertEqual(wishes.granted(both, both), (1, 2, 0))
        self.assertEqual(repeats.repeated(both, both, 1), (0, 0, 1))
        self.assertEqual(films.film_gap([both, both]), None)
        self.assertEqual(films.callers(both, both), [])
        self.assertEqual(small.first_word(both, both), [])
        self.assertEqual(both, [1, 2, 0])

    def test_value_is_not_changed(self):
        value = [[1, 0], (0,), "0", None, True]
        before = copy.deepcopy(value)
        self.assertIs(states.is_state(value), False)
        self.assertIs(reach.is_obstacle(RING, RING, value), False)
        self.assertIs(reach.is_word_to(RING, RING, value), False)
        self.assertIs(rests.shows_fewest(RING, [0], value), False)
        self.assertEqual(value, before)

    def test_results_may_be_passed_in_again(self):
        word = states.way(samples.RING, 0)
        after = calls.called_all(samples.RING, word)
        self.assertIs(states.is_state(after), True)
        self.assertEqual(calls.called_all(after, word), (0, 0, 0))
        self.assertEqual(states.rings(after), [(0,)])
        goal = futures.future_at(MIXED, 17)
        self.assertIs(reach.is_word_to(MIXED, goal, reach.word_to(MIXED, goal)), True)
        self.assertIs(reach.is_obstacle(goal, MIXED, reach.obstacle(goal, MIXED)), True)
        self.assertEqual(wishes.forced(RING, wishes.forced(RING, (1, None, 2))), (1, 2, 2))
        self.assertEqual(films.film_gap(small.all_futures(RING)[:1] + calls.states_along(RING, [0])), 0)
        self.assertEqual(films.film_gap(calls.states_along(RING, small.first_word(RING, (2, 2, 2)))), None)
        self.assertEqual(repeats.turning(MIXED, repeats.turning(MIXED, [2])), [2])
        past = pasts.ring_past_at(MIXED, pasts.ring_pasts_many(MIXED) - 1)
        self.assertEqual(common.common_past(past, past), past)

    def test_a_query_that_raises_changes_nothing(self):
        state = list(samples.RING)
        word = [0, 1, 7]
        for function in (calls.called_all, calls.states_along, calls.idle_calls, rests.rest_with):
            self.assertRaises(NoPerson, function, state, word)
            self.assertEqual([state, word], [list(samples.RING), [0, 1, 7]])


class Beyond(unittest.TestCase):
    def test_somewhat_more_people_and_calls_than_the_limits(self):
        state = samples.ring_state(60)
        self.assertEqual(states.rings(state), [tuple(range(60))])
        self.assertEqual(states.person_after(state, 0, 10 ** 13), 10 ** 13 % 60)
        self.assertEqual(len(calls.states_along(state, [0] * 4500)), 4501)
        self.assertEqual(calls.called_all(state, reach.word_to(state, (59,) * 60)), (59,) * 60)
        self.assertEqual(futures.number_of(state, (59,) * 60), 61 ** 59 - 1)
        self.assertEqual(rests.fewest_to_rest(state, [0]), 59)
        self.assertEqual(kin.kin_many(state), 1)
        self.assertEqual(common.common_future(state, (59,) * 60), (59,) * 60)
        self.assertEqual(common.common_past(state, (59,) * 60), state)
        self.assertEqual(pasts.ring_past_number((0,) * 60, state), 0)
        self.assertEqual(pasts.line_past_number((0,) * 60, samples.line_state(60)), pasts.line_pasts_many((0,) * 60) - 1)
        self.assertEqual(wishes.forced(state, state[:59] + (None,))[:59], state[:59])
        self.assertEqual(repeats.settles(state, [7] * 250), (1, 1))
        self.assertEqual(repeats.repeated((1, 0) + (0,) * 58, [2] * 251, 10 ** 13 + 1), (1, 0, 1) + (0,) * 57)
        self.assertEqual(films.film_bar([state] * 60 + [(59,) * 60] * 2 + [state]), ("way", 0))
        self.assertEqual(small.words_many((0,) * 60, (0,) * 60, 25), 60 ** 25)


if __name__ == "__main__":
    unittest.main()
