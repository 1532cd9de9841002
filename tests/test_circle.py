"""Points [17] and [18]: a circle, beside a plain record of its states."""

import inspect
import itertools
import random
import unittest

from lookpast import calls, circle, errors
from lookpast.circle import Circle
from lookpast.errors import BadDeed, IsRoot, NoDeed, NoPerson, OtherSize, Unreachable
from tests import plain, samples
from tests.cases import ErrorCase

RING = samples.RING
LINE = samples.LINE
MIXED = samples.MIXED

DEED_ERRORS = (NoPerson, OtherSize, Unreachable, IsRoot)


def first_stranger(state, word):
    return next((x for x in word if not 0 <= x < len(state)), None)


def changed(before, after):
    return sum(old != new for old, new in zip(before, after, strict=True))


def plain_call(state, person):
    if first_stranger(state, [person]) is not None:
        raise NoPerson(person)
    after = plain.call(state, person)
    return after, after[person]


def plain_run(state, word):
    if first_stranger(state, word) is not None:
        raise NoPerson(first_stranger(state, word))
    busy = 0
    for person in word:
        after = plain.call(state, person)
        busy += after != state
        state = after
    return state, busy


def plain_repeat(state, word, many):
    if first_stranger(state, word) is not None:
        raise NoPerson(first_stranger(state, word))
    after = plain.after_repetitions(state, word, many)
    return after, changed(state, after)


def plain_become(state, goal):
    if len(goal) != len(state):
        raise OtherSize(len(goal))
    if plain.obstacle(state, tuple(goal)) is not None:
        raise Unreachable(plain.obstacle(state, tuple(goal)))
    return tuple(goal), changed(state, goal)


def plain_come(state, target=None):
    if target is not None and first_stranger(state, [target]) is not None:
        raise NoPerson(target)
    return state + (len(state) if target is None else target,), len(state)


def plain_leave(state, person):
    if first_stranger(state, [person]) is not None:
        raise NoPerson(person)
    if state[person] == person:
        raise IsRoot(person)
    others = [x for x in range(len(state)) if x != person]
    after = tuple(others.index(state[person] if state[x] == person else state[x]) for x in others)
    return after, others.index(state[person])


PLAIN = {
    "call": plain_call, "run": plain_run, "repeat": plain_repeat, "become": plain_become, "come": plain_come,
    "leave": plain_leave,
}


class Record:
    """The states and the log that a circle must have, kept plainly."""

    def __init__(self, state):
        self.states = [state]
        self.log = []

    def deed(self, name, *arguments):
        after, result = PLAIN[name](self.states[-1], *arguments)
        self.states.append(after)
        return result

    def undo(self):
        if len(self.states) == 1:
            return False
        self.states.pop()
        return True

    def do(self, deeds, whole):
        before = list(self.states)
        results = []
        try:
            for name, *arguments in deeds:
                results.append(self.deed(name, *arguments))
        except DEED_ERRORS:
            if whole:
                self.states = before
            raise
        finally:
            self.log += [("in", len(deeds))] + [deed[0] for deed in deeds[:len(results)]] + [("out", len(results))]
        return results


def outcome(function, *arguments, **named):
    try:
        return function(*arguments, **named)
    except DEED_ERRORS as error:
        return type(error), vars(error)


def drawn_people(state, chosen, strangers):
    """Somebody, now and then somebody who is not there."""
    if chosen.random() < strangers:
        return chosen.choice([-1, -len(state), len(state), len(state) + 3, 10 ** 12])
    return chosen.randrange(len(state))


def drawn_deed(state, chosen, strangers=0.1):
    """A deed for a state, now and then one that raises an error."""
    name = chosen.choice(sorted(PLAIN))
    word = [drawn_people(state, chosen, strangers / 4) for unused in range(chosen.randrange(6))]
    if name in ("call", "leave"):
        return (name, drawn_people(state, chosen, strangers))
    if name == "run":
        return (name, word)
    if name == "repeat":
        return (name, word, chosen.choice([0, 1, 2, 3, 50, 10 ** 12 - 1, 10 ** 12]))
    if name == "come":
        if len(state) >= 40:
            return ("call", 0)
        return chosen.choice([("come",), ("come", None), ("come", drawn_people(state, chosen, strangers))])
    goal = plain.call_all(state, [chosen.randrange(len(state)) for unused in range(chosen.randrange(9))])
    if chosen.random() < 3 * strangers:
        goal = chosen.choice([goal[1:] or (0, 0), goal + (0,), tuple(chosen.randrange(len(state)) for x in state)])
    return (name, goal)


def starts():
    yield from ((0,), (1, 0), RING, LINE, MIXED, samples.ring_state(12), samples.lasso_state(9, 4))
    yield samples.ring_state(40)
    yield samples.lasso_state(38, 20)


class Beside(unittest.TestCase):
    """Rows of drawn deeds, each beside the record."""

    def check_same(self, kept, record):
        state = record.states[-1]
        self.assertEqual(kept.state(), state)
        self.assertIs(type(kept.state()), tuple)
        self.assertEqual(kept.deeds(), len(record.states) - 1)
        self.assertEqual(len(kept), len(state))
        self.assertEqual(repr(kept), f"Circle({len(state)} people)")
        self.assertEqual(kept.log(), record.log)
        self.assertTrue(kept == Circle(state))
        self.assertFalse(kept != Circle(state))

    def check_past(self, kept, record):
        for many in range(len(record.states)):
            old = kept.as_of(many)
            self.assertEqual([old.state(), old.deeds(), old.log()], [record.states[many], many, []])
        twin = kept.twin()
        for state in reversed(record.states):
            self.assertEqual([twin.state(), twin.log()], [state, []])
            twin.undo()
        self.assertIs(twin.undo(), False)

    def test_single_deeds(self):
        for seed, state in enumerate(list(starts()) * 5):
            chosen = random.Random(seed)
            kept, record = Circle(state), Record(state)
            for unused in range(80):
                if chosen.random() < 0.15:
                    self.assertIs(kept.undo(), record.undo())
                else:
                    name, *arguments = drawn_deed(record.states[-1], chosen)
                    expected = outcome(record.deed, name, *arguments)
                    self.assertEqual(outcome(getattr(kept, name), *arguments), expected, (name, arguments))
                self.check_same(kept, record)
            self.check_past(kept, record)

    def test_lists_of_deeds(self):
        for seed, state in enumerate(list(starts()) * 5):
            chosen = random.Random(seed + 100)
            kept, record = Circle(state), Record(state)
            for unused in range(25):
                now = Record(record.states[-1])
                deeds = []
                for each in range(chosen.randrange(13)):
                    deeds.append(drawn_deed(now.states[-1], chosen, strangers=0.05))
                    outcome(now.deed, *deeds[-1])
                whole = chosen.random() < 0.5
                expected = outcome(record.do, deeds, whole)
                self.assertEqual(outcome(kept.do, deeds, whole=whole), expected, deeds)
                self.check_same(kept, record)
                for each in range(chosen.randrange(5)):
                    self.assertIs(kept.undo(), record.undo())
                self.check_same(kept, record)
            self.check_past(kept, record)

    def test_the_draws_are_varied(self):
        chosen = random.Random(3)
        names, raised = set(), set()
        for unused in range(1000):
            state = chosen.choice(list(starts()))
            deed = drawn_deed(state, chosen)
            result = outcome(Record(state).deed, *deed)
            names.add(deed[0])
            raised.add(result[0] if isinstance(result, tuple) else None)
        self.assertEqual(names, set(PLAIN))
        self.assertEqual(raised, set(DEED_ERRORS) | {None})

    def test_after_any_deeds_as_a_new_circle(self):
        """Guarantee (h) of point [1]."""
        chosen = random.Random(18)
        for state in starts():
            kept = Circle(state)
            for unused in range(40):
                outcome(kept.do, [drawn_deed(kept.state(), chosen)], whole=chosen.random() < 0.5)
                if chosen.random() < 0.2:
                    kept.undo()
                deed = drawn_deed(kept.state(), chosen)
                twin, new = kept.twin(), Circle(kept.state())
                self.assertEqual(twin, new)
                self.assertEqual(outcome(twin.do, [deed]), outcome(new.do, [deed]))
                self.assertEqual([twin.state(), twin.log(), len(twin)], [new.state(), new.log(), len(new)])
                self.assertEqual(twin, new)


class Deeds(ErrorCase):
    def test_results(self):
        kept = Circle(MIXED)
        self.assertEqual(kept.call(3), 0)
        self.assertEqual(kept.run([2, 2, 2]), 3)
        self.assertEqual(kept.state(), (1, 0, 1, 0))
        self.assertEqual(kept.repeat([2, 3], 10 ** 12 + 1), 2)
        self.assertEqual(kept.come(), 4)
        self.assertEqual(kept.come(4), 5)
        self.assertEqual(kept.state(), (1, 0, 0, 1, 4, 4))
        self.assertEqual(kept.leave(2), 0)
        self.assertEqual(kept.leave(0), 0)
        self.assertEqual(kept.state(), (0, 0, 2, 2))
        self.assertEqual(kept.become((0, 0, 2, 2)), 0)
        self.assertEqual(kept.deeds(), 8)

    def test_all_deeds_of_small_states(self):
        for state in samples.small_states(3):
            for person in range(-1, len(state) + 1):
                for name in ("call", "leave", "come"):
                    self.check_deed(state, name, person)
            for goal in samples.small_states(3):
                self.check_deed(state, "become", goal)
            for word in itertools.product(range(-1, len(state) + 1), repeat=2):
                self.check_deed(state, "run", list(word))
                self.check_deed(state, "repeat", list(word), 10 ** 12 - 1)

    def check_deed(self, state, name, *arguments):
        kept, record = Circle(state), Record(state)
        expected = outcome(record.deed, name, *arguments)
        self.assertEqual(outcome(getattr(kept, name), *arguments), expected, (state, name, arguments))
        self.assertEqual(kept.state(), record.states[-1])
        self.assertEqual(kept.deeds(), len(record.states) - 1)

    def test_a_deed_that_changes_nothing_is_in_effect(self):
        kept = Circle((0, 0))
        for deed in (("call", 1), ("run", []), ("run", [0, 1]), ("repeat", [], 5), ("repeat", [1], 0), ("become", (0, 0))):
            before = kept.deeds()
            kept.do([deed])
            self.assertEqual(kept.deeds(), before + 1)
            self.assertEqual(kept.state(), (0, 0))
        for many in range(6, 0, -1):
            self.assertEqual(kept.deeds(), many)
            self.assertIs(kept.undo(), True)
        self.assertIs(kept.undo(), False)

    def test_run_counts_the_calls_that_are_not_idle(self):
        self.assertEqual(Circle(LINE).run([]), 0)
        self.assertEqual(Circle(LINE).run([3, 3, 3, 3]), 2)
        self.assertEqual(Circle(LINE).run([2, 3, 3]), 2)
        self.assertEqual(Circle((1, 0, 0)).run([2] * 4000), 4000)

    def test_repeat_and_become_count_pointers(self):
        self.assertEqual(Circle((1, 0, 0)).repeat([2], 10 ** 12), 0)
        self.assertEqual(Circle(samples.line_state(40)).repeat([39, 38, 37], 10 ** 12), 3)
        self.assertEqual(Circle(samples.ring_state(40)).become((0,) * 40), 39)
        self.assertEqual(Circle(RING).become(RING), 0)

    def test_errors(self):
        for state in (RING, LINE, (0,), samples.ring_state(40)):
            for stranger in samples.strangers(state):
                self.check_raises(NoPerson(stranger), Circle(state).call, stranger)
                self.check_raises(NoPerson(stranger), Circle(state).run, [0, stranger, -5])
                self.check_raises(NoPerson(stranger), Circle(state).repeat, [0, stranger, -5], 0)
                self.check_raises(NoPerson(stranger), Circle(state).repeat, [stranger], 10 ** 12)
                self.check_raises(NoPerson(stranger), Circle(state).come, stranger)
                self.check_raises(NoPerson(stranger), Circle(state).leave, stranger)
        self.check_raises(IsRoot(0), Circle(LINE).leave, 0)
        self.check_raises(IsRoot(0), Circle((0,)).leave, 0)
        self.check_raises(OtherSize(2), Circle(RING).become, (1, 0))
        self.check_raises(OtherSize(4), Circle(RING).become, LINE)
        self.check_raises(Unreachable(("order", 0, 2, 1)), Circle(RING).become, (2, 0, 1))
        self.check_raises(Unreachable(("way", 1)), Circle((1, 0, 0)).become, RING)
        self.check_raises(Unreachable(("rings", 0, 1)), Circle(RING).become, (0, 1, 0))

    def test_a_deed_that_raises_an_error_is_not_in_effect(self):
        kept = Circle(LINE)
        kept.call(3)
        for failing in (
            lambda: kept.call(4), lambda: kept.run([3, 2, 4]), lambda: kept.repeat([3, -1], 5), lambda: kept.come(4),
            lambda: kept.become(RING), lambda: kept.become(LINE), lambda: kept.leave(0), lambda: kept.leave(9),
        ):
            self.assertRaises(DEED_ERRORS, failing)
            self.assertEqual([kept.state(), kept.deeds(), kept.log()], [(0, 0, 1, 1), 1, []])

    def test_arguments_by_name(self):
        kept = Circle(state=[1, 0, 0])
        self.assertEqual(kept.call(person=2), 1)
        self.assertEqual(kept.run(word=(2, 2)), 2)
        self.assertEqual(kept.repeat(many=10 ** 12 + 1, word=(2,)), 1)
        self.assertEqual(kept.become(goal=[1, 0, 1]), 1)
        self.assertEqual(kept.come(target=None), 3)
        self.assertEqual(kept.come(target=2), 4)
        self.assertEqual(kept.leave(person=2), 1)
        self.assertEqual(kept.do(deeds=(("call", 0),), whole=False), [0])
        self.assertEqual(kept.as_of(many=0).state(), (1, 0, 0))

    def test_lists_and_tuples(self):
        kept = Circle([1, 2, 0])
        self.assertEqual(kept.state(), RING)
        self.assertEqual(kept.run((0, 1)), Circle(RING).run([0, 1]))
        self.assertEqual(kept.repeat((2,), 5), 1)
        kept.become([2, 2, 2])
        self.assertEqual(kept.state(), (2, 2, 2))
        self.assertIs(type(kept.state()), tuple)
        self.assertEqual(kept.do((("run", (0,)), ("become", [2, 2, 2]), ("repeat", (1,), 2))), [0, 0, 0])

    def test_later_changes_to_arguments_have_no_effect(self):
        state, goal, word = [1, 2, 0], [1, 0, 0], [2]
        deeds = [("become", goal), ("run", word)]
        kept = Circle(state)
        kept.do(deeds)
        state[0] = goal[0] = word[0] = 9
        deeds.append(("call", 0))
        self.assertEqual([kept.state(), kept.as_of(1).state(), kept.as_of(0).state()], [(1, 0, 1), (1, 0, 0), RING])
        self.assertEqual(kept.log(), [("in", 2), "become", "run", ("out", 2)])

    def test_arguments_are_not_changed(self):
        state, goal, word = [1, 2, 0], [1, 0, 0], [2, 2]
        deeds = [("become", goal), ("run", word), ("repeat", word, 3), ("call", 7)]
        kept = Circle(state)
        for whole in (True, False):
            self.assertRaises(NoPerson, kept.do, deeds, whole=whole)
        self.assertEqual([state, goal, word], [[1, 2, 0], [1, 0, 0], [2, 2]])
        self.assertEqual(deeds, [("become", goal), ("run", word), ("repeat", word, 3), ("call", 7)])


class Undo(unittest.TestCase):
    def test_down_to_the_beginning_and_once_more(self):
        kept = Circle(samples.ring_state(40))
        word = [random.Random(80).randrange(40) for unused in range(80)]
        for person in word:
            kept.call(person)
        along = calls.states_along(samples.ring_state(40), word)
        for many in range(80, 0, -1):
            self.assertEqual([kept.deeds(), kept.state()], [many, along[many]])
            self.assertIs(kept.undo(), True)
        for unused in range(3):
            self.assertIs(kept.undo(), False)
            self.assertEqual([kept.deeds(), kept.state()], [0, along[0]])

    def test_each_deed_of_a_do_separately(self):
        kept = Circle(RING)
        kept.do([("call", 1), ("come",), ("leave", 2)])
        self.assertEqual(kept.state(), (1, 0, 2))
        seen = []
        while kept.undo():
            seen.append(kept.state())
        self.assertEqual(seen, [(1, 0, 0, 3), (1, 0, 0), RING])

    def test_people_come_back(self):
        kept = Circle(LINE)
        kept.leave(1)
        self.assertEqual(len(kept), 3)
        kept.undo()
        self.assertEqual([len(kept), kept.state()], [4, LINE])
        kept.come(3)
        kept.undo()
        self.assertEqual([len(kept), kept.state()], [4, LINE])

    def test_undone_deeds_are_gone(self):
        kept = Circle(LINE)
        kept.call(3)
        kept.undo()
        kept.call(2)
        self.assertEqual([kept.deeds(), kept.as_of(1).state()], [1, (0, 0, 0, 2)])

    def test_undo_leaves_the_log(self):
        kept = Circle(LINE)
        kept.do([("call", 3)])
        kept.undo()
        kept.undo()
        self.assertEqual(kept.log(), [("in", 1), "call", ("out", 1)])


class Do(ErrorCase):
    failing = {
        "call": (("call", 9), NoPerson(9)),
        "run": (("run", [0, -1]), NoPerson(-1)),
        "repeat": (("repeat", [8], 0), NoPerson(8)),
        "size": (("become", (0,)), OtherSize(1)),
        "goal": (("become", (1, 2, 0)), Unreachable(("way", 0))),
        "come": (("come", 77), NoPerson(77)),
        "leave": (("leave", 9), NoPerson(9)),
        "root": (("leave", 0), IsRoot(0)),
    }

    def test_an_error_at_any_place(self):
        good = [("call", 2), ("run", [2, 1]), ("repeat", [1], 3), ("become", (0, 0, 0)), ("call", 0)]
        for bad, error in self.failing.values():
            for at in range(len(good) + 1):
                deeds = good[:at] + [bad] + good[at:]
                names = [deed[0] for deed in good[:at]]
                log = [("in", 6)] + names + [("out", at)]
                for whole in (True, False):
                    kept = Circle((0, 0, 1))
                    kept.call(1)
                    self.check_raises(error, kept.do, deeds, whole=whole)
                    done = 0 if whole else at
                    expected = Circle((0, 0, 1))
                    expected.do(good[:done])
                    self.assertEqual([kept.state(), kept.deeds()], [expected.state(), 1 + done])
                    self.assertEqual(kept.log(), log)

    def test_whole_is_the_default(self):
        kept = Circle(LINE)
        self.check_raises(NoPerson(9), kept.do, [("call", 3), ("call", 9)])
        self.assertEqual([kept.state(), kept.deeds()], [LINE, 0])
        self.assertRaises(TypeError, kept.do, [("call", 3)], False)

    def test_nothing_to_do(self):
        kept = Circle(LINE)
        self.assertEqual(kept.do([]), [])
        self.assertEqual(kept.do((), whole=False), [])
        self.assertEqual(kept.log(), [("in", 0), ("out", 0)] * 2)
        self.assertEqual(kept.deeds(), 0)

    def test_results_and_log(self):
        kept = Circle(RING)
        self.assertEqual(kept.do([("call", 1), ("come",), ("leave", 2)]), [0, 3, 0])
        self.assertEqual(kept.do([("come", None), ("come", 0)], whole=False), [3, 4])
        self.assertEqual(kept.do([("run", [4, 4]), ("repeat", [4], 3), ("become", (0, 0, 2, 3, 1))]), [2, 1, 1])
        self.assertEqual(kept.log(), [
            ("in", 3), "call", "come", "leave", ("out", 3), ("in", 2), "come", "come", ("out", 2),
            ("in", 3), "run", "repeat", "become", ("out", 3),
        ])

    def test_only_do_writes_the_log(self):
        kept = Circle(RING)
        for unused in (kept.call(0), kept.run([1]), kept.come(), kept.undo(), kept.repeat([], 1), kept.twin()):
            self.assertEqual(kept.log(), [])

    def test_the_log_belongs_to_the_caller(self):
        kept = Circle(RING)
        results = kept.do([("call", 1)])
        found = kept.log()
        found.append("more")
        found[0] = "other"
        results.append(5)
        self.assertEqual(kept.log(), [("in", 1), "call", ("out", 1)])
        self.assertEqual(kept.do([("call", 1)]), [1])


class BadDeeds(ErrorCase):
    wrong = (
        None, True, False, 0, 5, -1, "", "call", "undo", "come", b"come", 1.5, (), [], {}, {"call": 1}, set(), frozenset(),
        ["call", 1], ["come"], ["come", None], [("call", 1)], (("call", 1),), (["call"], 1), ((), 1), ({}, 1), (set(), 1),
        (None,), (None, 1), (True, 1), (0, 1), (1, 1), (b"call", 1), (["come"],), (("come",),), (object(), 1), object(),
        ("call",), ("call", 1, 2), ("call", 1, None), ("run",), ("run", [0], 1), ("run", 0, 1, 2), ("repeat",),
        ("repeat", [0]), ("repeat", [0], 1, 2), ("become",), ("become", RING, RING), ("become", 1, 2, 0), ("come", 1, 2),
        ("come", None, None), ("leave",), ("leave", 1, 2), ("undo",), ("do", []), ("do",), ("state",), ("deeds",), ("log",),
        ("as_of", 1), ("twin",), ("act", "call", 1), ("Call", 1), ("CALL", 1), ("call ", 1), (" call", 1), ("", 1), ("",),
        ("calls", 1), ("cal", 1), ("come\n",), ("__init__", RING), ("__len__",), ("along",), "calling", range(2),
        Circle(RING), (Circle(RING), 1), (Circle,), (Circle.call, 1), Circle.call, iter([]), (lambda: 0,),
        ("call", 1) * 50000, ("x" * 100000, 1), (10 ** 5000, 1),
    )

    def test_every_kind_of_item(self):
        for item in self.wrong:
            for before in ([], [("call", 2)], [("come",), ("leave", 2), ("run", [])]):
                for behind in ([], [("call", 2)], [("call",)]):
                    for whole in (True, False):
                        kept = Circle(LINE)
                        self.check_raises(BadDeed(len(before)), kept.do, before + [item] + behind, whole=whole)
                        self.assertEqual([kept.state(), kept.deeds(), kept.log()], [LINE, 0, []])

    def test_ahead_of_any_other_error(self):
        kept = Circle(LINE)
        self.check_raises(BadDeed(2), kept.do, [("call", 9), ("leave", 0), ["call", 3]])
        self.check_raises(BadDeed(1), kept.do, [("become", (0,)), ("call",), 5], whole=False)
        self.assertEqual([kept.state(), kept.deeds(), kept.log()], [LINE, 0, []])

    def test_log_after_earlier_ones(self):
        kept = Circle(LINE)
        kept.do([("call", 3)])
        self.check_raises(BadDeed(0), kept.do, [None])
        self.assertRaises(NoPerson, kept.do, [("call", 3), ("call", 4)])
        self.check_raises(BadDeed(1), kept.do, (("call", 3), None))
        self.assertEqual(kept.log(), [("in", 1), "call", ("out", 1), ("in", 2), "call", ("out", 1)])

    def test_twelve_items(self):
        kept = Circle(LINE)
        for at in range(12):
            deeds = [("call", 3)] * at + [[]] + [("call", 3)] * (11 - at)
            self.check_raises(BadDeed(at), kept.do, deeds)
        self.assertEqual(kept.do([("call", 3)] * 12), [1] + [0] * 11)
        self.assertEqual(kept.deeds(), 12)


class Queries(ErrorCase):
    def busy_circle(self):
        kept = Circle(RING)
        kept.call(1)
        kept.do([("come",), ("come", 3)])
        kept.undo()
        kept.leave(2)
        return kept

    def test_as_of_every_number(self):
        kept = self.busy_circle()
        expected = [RING, (1, 0, 0), (1, 0, 0, 3), (1, 0, 2)]
        self.assertEqual(kept.deeds(), 3)
        for many, state in enumerate(expected):
            old = kept.as_of(many)
            self.assertIs(type(old), Circle)
            self.assertEqual([old.state(), old.deeds(), old.log()], [state, many, []])
            for earlier in reversed(expected[:many]):
                self.assertIs(old.undo(), True)
                self.assertEqual(old.state(), earlier)
            self.assertIs(old.undo(), False)
        self.assertEqual([kept.state(), kept.deeds()], [(1, 0, 2), 3])

    def test_without_deeds(self):
        for state in ((0,), RING, samples.ring_state(40)):
            for other in (Circle(state).twin(), Circle(state).as_of(0)):
                self.assertEqual([other.state(), other.deeds(), other.log()], [state, 0, []])
                self.assertIs(other.undo(), False)

    def test_no_such_number_of_deeds(self):
        kept = self.busy_circle()
        for many in (-1, -2, -3, -4, 4, 5, 100, 10 ** 12, -10 ** 12, 10 ** 5000, -10 ** 5000):
            self.check_raises(NoDeed(many), kept.as_of, many)
        for many in (-1, 1):
            self.check_raises(NoDeed(many), Circle(RING).as_of, many)
        self.assertEqual(kept.deeds(), 3)

    def test_a_twin_goes_its_own_way(self):
        kept = self.busy_circle()
        for twin in (kept.twin(), kept.as_of(3)):
            self.assertEqual(twin, kept)
            self.assertIsNot(twin, kept)
            self.assertEqual([twin.deeds(), twin.log()], [3, []])
            twin.do([("come", 0), ("call", 3)])
            twin.undo()
            twin.undo()
            twin.undo()
            twin.undo()
            twin.call(0)
            self.assertEqual([kept.state(), kept.deeds()], [(1, 0, 2), 3])
            self.assertEqual(kept.log(), [("in", 2), "come", "come", ("out", 2)])
        twin = kept.twin()
        kept.undo()
        kept.call(0)
        self.assertEqual([twin.state(), twin.deeds(), twin.log()], [(1, 0, 2), 3, []])
        self.assertEqual(kept.twin().twin().state(), kept.state())

    def test_equal(self):
        one, other = self.busy_circle(), Circle([1, 0, 2])
        self.assertIs(one == other, True)
        self.assertIs(one != other, False)
        self.assertIs(other == one, True)
        other.call(0)
        self.assertIs(one == other, False)
        self.assertIs(one != other, True)
        other.undo()
        self.assertIs(one == other, True)
        self.assertIs(Circle((0,)) == Circle((0, 1)), False)

    def test_equal_to_nothing_else(self):
        for state in (RING, (0,)):
            kept = Circle(state)
            for value in samples.ODD_VALUES + (state, list(state), repr(kept), len(kept), object(), Circle, {}, set()):
                self.assertIs(kept == value, False)
                self.assertIs(value == kept, False)
                self.assertIs(kept != value, True)

    def test_repr_and_len(self):
        for many in (1, 2, 3, 39, 40, 60):
            kept = Circle((0,) * many)
            self.assertEqual(repr(kept), f"Circle({many} people)")
            self.assertEqual(str(kept), f"Circle({many} people)")
            self.assertEqual(len(kept), many)
            self.assertTrue(kept)
        kept = Circle((0,))
        kept.come()
        self.assertEqual([repr(kept), len(kept)], ["Circle(2 people)", 2])

    def test_queries_change_nothing(self):
        kept = self.busy_circle()
        before = [kept.state(), kept.deeds(), kept.log(), len(kept), repr(kept)]
        for unused in range(3):
            kept.as_of(1).call(0)
            kept.twin().undo()
            kept.log().clear()
            self.assertEqual([kept.state(), kept.deeds(), kept.log(), len(kept), repr(kept)], before)


class Interface(unittest.TestCase):
    parameters = {
        "__init__": "(self, state)", "call": "(self, person)", "run": "(self, word)", "repeat": "(self, word, many)",
        "become": "(self, goal)", "come": "(self, target=None)", "leave": "(self, person)", "undo": "(self)",
        "do": "(self, deeds, *, whole=True)", "state": "(self)", "deeds": "(self)", "as_of": "(self, many)",
        "twin": "(self)", "log": "(self)", "__len__": "(self)", "__eq__": "(self, other)", "__repr__": "(self)",
    }

    def test_methods_stand_in_the_class_itself(self):
        self.assertIs(circle.Circle, Circle)
        self.assertEqual(Circle.__module__, "lookpast.circle")
        for name, expected in self.parameters.items():
            self.assertIn(name, vars(Circle))
            self.assertEqual(str(inspect.signature(vars(Circle)[name])), expected)

    def test_beyond_the_limits(self):
        kept = Circle(samples.ring_state(60))
        for unused in range(120):
            kept.call(0)
        kept.do([("come", 0)] * 30)
        self.assertEqual([kept.deeds(), len(kept)], [150, 90])
        self.assertEqual(kept.as_of(120).state()[0], 0)

    def test_errors_are_those_of_the_package(self):
        for error in DEED_ERRORS + (BadDeed, NoDeed):
            self.assertIs(getattr(errors, error.__name__), error)


if __name__ == "__main__":
    unittest.main()
