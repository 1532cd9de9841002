"""Point [20]: a desk that answers lines of text."""

import random
import unittest

from lookpast import desk, futures, reach, repeats, rests, states, texts, wishes
from lookpast.circle import Circle
from lookpast.errors import (
    BadLine, IsRoot, MissingRoot, NoPerson, NoRoot, OtherSize, Unreachable,
)
from tests import samples
from tests.cases import ErrorCase

RING = "1 2 0"
LINE = "0 0 1 2"
MIXED = "1 0 0 2"
REFUSED = (NoPerson, OtherSize, Unreachable, IsRoot, NoRoot, MissingRoot)

FINE_LINES = (
    "call 0", "call 7", "call 9999999999999", "run -", "run 0", "run 7 0 1", "repeat 0 -", "repeat 5 0 1",
    "repeat 1000000000000 2", "repeat 999999999999 9999999999999", "become 0", "become 1 2 0", "become 0 0 0 0 0", "come",
    "come 0", "come 12", "leave 0", "leave 33", "undo", "state", "way 0", "way 10", "rings", "leads 0", "leads 2 0 1",
    "many", "number 0 0 0", "number 0", "rest 0", "rest 100", "settles -", "settles 0 1", "settles 9", "wish ?", "wish 0 ? 1",
    "wish 0",
)
NUMBERS = ("call", "come", "leave", "way", "rest")
WRONG_NUMBERS = (
    "", "-", "?", "-1", "+1", "00", "01", "10000000000000", "1 ", " 1", "1 1", "1 2", "x", "1x", "\u0661", "1.0", "1\t", "1\r",
    "None",
)
WRONG_WORDS = (
    "", " ", "- -", "- 1", "1 -", "1  2", "1 ", " 1", "?", "1 ?", "01", "1 02", "-1", "+1", "10000000000000", "x", "1,2",
    "1\t2", "\u0661", "1 2 x", "1\r",
)
WRONG_STATES = (
    "", " ", "-", "?", "1", "0 2", "2 0", "1 2 3", "0  0", "0 ", " 0", "00", "0 01", "-1", "0 ?", "0 -", "x", "0,0", "\u0660",
    "0\t", "3 0 0", "0 0 9999999999999",
)
WRONG_WISHES = (
    "", " ", "-", "1", "? 2", "2 ?", "??", "?  ?", "? ", " ?", "? -", "? 00", "? x", "? -1", "?,?", "? +1", "\uff1f",
)
WRONG_REPEATS = (
    "", " ", "5", "5 ", "-", "- 5", "- -", "5  1", " 5 1", "5 1 ", "05 1", "+5 1", "-5 1", "? 1", "x 1", "5 x", "5 01", "5 - 1",
    "5 1 -", "1000000000001 -", "1000000000001 0", "9999999999999 0", "10000000000000 0", "5\t1", "\u0661 1",
)
NO_LINES = (
    "", " ", "  ", "help", "x", "0", "1 2 0", "-", "?", "Call 1", "CALL 1", "call", "calls 1", "cal 1", " call 1", "call  1",
    "call\t1", "call1", "run", "repeat", "become", "leave", "way", "leads", "number", "rest", "settles", "wish", "undo ",
    " undo", "undo 1", "undo -", "undo undo", "UNDO", "state ", "state 0", "state 1 2 0", "rings ", "rings 0", "many ",
    "many 0", "come ", "come -", "come ?", "come None", "twin", "log", "deeds", "do", "as_of 0", "len", "\t", "\r", "undo\r",
    "state\t", "call 0\r", "obstacle 0", "futures_many", "act call", "done", "refused NoPerson",
)


def plain_answer(kept, line):
    """The answer of the table in point [20]."""
    words = line.split(" ")
    name, rest = words[0], " ".join(words[1:])
    state = kept.state()
    if name in ("call", "leave"):
        return str(getattr(kept, name)(int(rest)))
    if name == "run":
        return str(kept.run(texts.word_in(rest)))
    if name == "repeat":
        return str(kept.repeat(texts.word_in(" ".join(words[2:])), int(words[1])))
    if name == "become":
        return str(kept.become(texts.state_in(rest)))
    if name == "come":
        return str(kept.come(int(rest)) if rest else kept.come())
    if name == "undo":
        return "done" if kept.undo() else "nothing"
    if name == "state":
        return texts.state_text(state)
    if name == "way":
        return " ".join(str(person) for person in states.way(state, int(rest)))
    if name == "rings":
        return " / ".join(" ".join(str(person) for person in ring) for ring in states.rings(state))
    if name == "leads":
        found = reach.obstacle(state, texts.state_in(rest))
        return "yes" if found is None else " ".join(str(item) for item in found)
    if name == "many":
        return str(futures.futures_many(state))
    if name == "number":
        return str(futures.number_of(state, texts.state_in(rest)))
    if name == "rest":
        return str(rests.fewest_to_rest(state, [int(rest)]))
    if name == "settles":
        return "{} {}".format(*repeats.settles(state, texts.word_in(rest)))
    found = wishes.wish_obstacle(state, texts.wish_in(rest))
    return "yes" if found is None else " ".join(str(item) for item in found)


def plain_answers(text):
    first, *lines = text.split("\n")
    kept = Circle(texts.state_in(first))
    found = []
    for line in lines:
        try:
            found.append(plain_answer(kept, line))
        except REFUSED as error:
            found.append(f"refused {type(error).__name__}")
    return found


def drawn_numbers(chosen, size, most):
    return [chosen.randrange(size + (chosen.random() < 0.1)) for unused in range(chosen.randrange(most))]


def drawn_goal(chosen, now):
    goal = list(now)
    for unused in range(chosen.randrange(5)):
        person = chosen.randrange(len(goal))
        goal[person] = goal[goal[person]]
    if chosen.random() < 0.3:
        goal[chosen.randrange(len(goal))] = chosen.randrange(len(goal))
    return goal + [0] * (chosen.random() < 0.1)


def drawn_line(chosen, now):
    """A line of the table for a state, now and then one that is refused."""
    person = str(chosen.randrange(len(now) + (chosen.random() < 0.2)))
    word = texts.word_text(drawn_numbers(chosen, len(now), 5))
    goal = texts.state_text(drawn_goal(chosen, now))
    wish = texts.wish_text([chosen.choice([None, target]) for target in drawn_goal(chosen, now)])
    return chosen.choice([
        "call " + person, "run " + word, f"repeat {chosen.randrange(10 ** 12 + 1)} {word}", "become " + goal, "come",
        "come " + person, "leave " + person, "undo", "state", "way " + person, "rings", "leads " + goal, "many",
        "number " + goal, "rest " + person, "settles " + word, "wish " + wish,
    ])


class Answers(unittest.TestCase):
    def check(self, lines, expected):
        self.assertEqual(desk.answers("\n".join(lines)), expected)

    def test_every_line_of_the_table(self):
        self.check([MIXED, "call 3"], ["0"])
        self.check([LINE, "run 3 1 3"], ["2"])
        self.check([LINE, "run -"], ["0"])
        self.check(["1 0 0", "repeat 999999999999 2"], ["1"])
        self.check(["1 0 0", "repeat 1000000000000 2", "repeat 0 2", "repeat 7 -"], ["0", "0", "0"])
        self.check([RING, "become 0 0 0"], ["2"])
        self.check([RING, "come", "come 1", "state"], ["3", "4", "1 2 0 3 1"])
        self.check([RING, "leave 1", "state"], ["1", "1 0"])
        self.check([RING, "undo", "call 0", "undo", "undo"], ["nothing", "2", "done", "nothing"])
        self.check([RING, "state", "call 0", "state"], ["1 2 0", "2", "2 2 0"])
        self.check([MIXED, "way 3", "way 0"], ["2 0 1", "1 0"])
        self.check(["1 0 2 4 3", "rings"], ["0 1 / 2 / 3 4"])
        self.check(["0", "rings", "way 0", "state", "many"], ["0", "0", "0", "1"])
        self.check([RING, "leads 1 0 0", "leads 2 0 1", "leads 0 1 0"], ["yes", "order 0 2 1", "rings 0 1"])
        self.check([LINE, "leads 0 2 1 2", "leads 0 0 0 0"], ["way 1", "yes"])
        self.check([RING, "many", "number 1 0 0", "number 2 2 2"], ["16", "1", "15"])
        self.check([MIXED, "rest 1", "rest 0"], ["3", "2"])
        self.check(["1 0 0", "settles 2", "settles -"], ["0 2", "0 1"])
        self.check([LINE, "settles 3 2"], ["2 1"])
        self.check([RING, "wish ? ? 1", "wish 2 0 1", "wish 0 1 ?"], ["yes", "order 0 2 1", "rings 0 1"])
        self.check([LINE, "wish ? 2 ? ?", "wish ? ? ? ?"], ["way 1", "yes"])

    def test_refused(self):
        for line in ("call 3", "run 0 3", "repeat 0 9", "repeat 5 0 1 3", "come 3", "leave 3", "way 3", "rest 3", "settles 0 7"):
            self.check([RING, line], ["refused NoPerson"])
        for line in ("become 0", "leads 1 0", "number 0 0 0 0", "wish ?", "wish ? ? ? ?", "become 0 0 0 0"):
            self.check([RING, line], ["refused OtherSize"])
        for line in ("become 2 0 1", "number 2 0 1", "number 0 1 0"):
            self.check([RING, line], ["refused Unreachable"])
        self.check([LINE, "leave 0"], ["refused IsRoot"])
        self.check(["0", "leave 0", "leave 1"], ["refused IsRoot", "refused NoPerson"])
        self.check([LINE, "rest 3"], ["refused NoRoot"])
        self.check(["0 1", "rest 0"], ["refused MissingRoot"])
        self.check(["0 1 1", "rest 2", "rest 1"], ["refused NoRoot", "refused MissingRoot"])
        self.check([RING, "call 9999999999999"], ["refused NoPerson"])

    def test_what_is_refused_is_not_in_effect(self):
        self.check([RING, "call 9", "run 0 9", "leave 3", "become 2 0 1", "come 5", "state", "undo"],
                   ["refused NoPerson"] * 3 + ["refused Unreachable", "refused NoPerson", "1 2 0", "nothing"])

    def test_one_circle_answers_all_lines(self):
        self.check([RING, "call 1", "come 0", "state", "leave 0", "state", "undo", "undo", "undo", "undo", "state"],
                   ["0", "3", "1 0 0 0", "0", "0 0 0", "done", "done", "done", "nothing", "1 2 0"])

    def test_only_the_first_line(self):
        for state in samples.small_states(3):
            self.check([texts.state_text(state)], [])

    def test_every_answer_is_a_string_in_a_new_list(self):
        for line in FINE_LINES:
            found = desk.answers(f"{RING}\n{line}")
            self.assertIs(type(found), list)
            self.assertEqual([type(item) for item in found], [str])
            found[0] = "other"
            self.assertEqual(desk.answers(text=f"{RING}\n{line}"), plain_answers(f"{RING}\n{line}"))

    def test_drawn_lines(self):
        for seed in range(300):
            chosen = random.Random(seed)
            size = chosen.choice([1, 2, 3, 4, 6, 12, 40])
            now = [chosen.randrange(size) for x in range(size)]
            lines = [texts.state_text(now)]
            for unused in range(chosen.randrange(12)):
                lines.append(drawn_line(chosen, now))
                now = list(texts.state_in(desk.answers("\n".join(lines + ["state"]))[-1]))
            self.check(lines, plain_answers("\n".join(lines)))

    def test_sixty_lines(self):
        lines = [texts.state_text(samples.ring_state(40))] + ["call 0", "state", "undo"] * 20
        self.check(lines, plain_answers("\n".join(lines)))

    def test_more_than_forty_people(self):
        state = samples.ring_state(100)
        lines = [texts.state_text(state), "many", "way 0", "number " + texts.state_text((99,) * 100), "rest 7"]
        found = desk.answers("\n".join(lines))
        self.assertEqual([found[0], found[2], found[3]], [str(101 ** 99), str(101 ** 99 - 1), "99"])
        self.check([RING, "become " + texts.state_text(state), "wish " + "? " * 99 + "?"], ["refused OtherSize"] * 2)


class BadLines(ErrorCase):
    def check(self, at, *lines):
        self.check_raises(BadLine(at), desk.answers, "\n".join(lines))

    def wrong_lines(self):
        yield from NO_LINES
        for name in NUMBERS:
            yield from (f"{name} {rest}" for rest in WRONG_NUMBERS)
        for name in ("run", "settles"):
            yield from (f"{name} {rest}" for rest in WRONG_WORDS)
        for name in ("become", "leads", "number"):
            yield from (f"{name} {rest}" for rest in WRONG_STATES)
        yield from ("wish " + rest for rest in WRONG_WISHES)
        yield from ("repeat " + rest for rest in WRONG_REPEATS)

    def test_each_wrong_form(self):
        for line in self.wrong_lines():
            with self.subTest(line):
                self.check(1, RING, line)
                self.check(3, RING, "call 1", "call 7", line, "state")
                self.check(2, "0", "state", line, "also wrong")

    def test_fine_forms(self):
        for line in FINE_LINES:
            with self.subTest(line):
                self.assertEqual(len(desk.answers(f"{RING}\n{line}")), 1)
                self.assertEqual(len(desk.answers(f"0\nundo\n{line}\nundo")), 3)

    def test_a_first_line_that_is_wrong(self):
        for first in WRONG_STATES + ("call 1", "state", "0 x", "1 2 0 "):
            self.check(0, first)
            self.check(0, first, "state")
            self.check(0, first, "wrong")

    def test_empty_lines(self):
        self.check(0, "")
        self.check(0, "", RING)
        self.check(1, RING, "")
        self.check(1, RING, "", "state")
        self.check(2, RING, "state", "")
        self.check(2, RING, "state", "", "")
        self.check(0, "", "")

    def test_other_line_ends(self):
        self.check(0, RING + "\rstate")
        self.check(0, RING + "\r", "state")
        self.check(1, RING, "state\x0bstate")
        self.check(1, RING, "state\u2028state")

    def test_the_first_wrong_line_counts(self):
        self.check(2, RING, "state", "x", "y", "")
        self.check(5, RING, "leave 9", "call 9", "become 0", "undo", "undo 1", "z")

    def test_no_line_at_the_end_of_many(self):
        self.check(59, *([RING] + ["call 0"] * 58 + ["call"]))
        self.check(60, *([RING] + ["call 0"] * 59 + [""]))


if __name__ == "__main__":
    unittest.main()
