"""Point [19]: texts of states, words and wishes."""

import random
import unittest

from lookpast import texts
from lookpast.errors import BadText
from tests import samples
from tests.cases import ErrorCase

LARGEST = 10 ** 13 - 1
# What is no number: a leading zero, a sign, fourteen digits, other digits and characters, nothing at all.
NO_NUMBERS = (
    "00", "01", "007", "0000000000000", "0123456789012", "-1", "-0", "+1", "+0", "10000000000000", "12345678901234",
    "9" * 5000, "1" + "0" * 5000, "\u0661", "\u00b2", "\uff11", "\u0967", "\u2460", "\u2167", "1\u0661", "1.0", "1e3",
    "1_000", "0x1", "a", "1a", "a1", "?1", "1?", "??", "--", "-?", "None", "(1)", "1,", ",", "/", "\t", "\n", "1\n",
    "\n1", "1\t", "\r", "1\r", "\x00", "\u00a0", "1\u00a01", "\u3000", "1\u30002", "_", "\ud800",
)


class ThereAndBack(unittest.TestCase):
    def test_states(self):
        for state in samples.all_samples():
            text = texts.state_text(state)
            self.assertEqual(text, " ".join(str(target) for target in state))
            found = texts.state_in(text)
            self.assertIs(type(found), tuple)
            self.assertEqual(found, state)

    def test_words(self):
        chosen = random.Random(19)
        for length in (0, 1, 2, 3, 40, 4000):
            word = [chosen.randrange(10 ** chosen.randint(1, 13)) for unused in range(length)]
            text = texts.word_text(word)
            self.assertEqual(text, " ".join(str(number) for number in word) or "-")
            found = texts.word_in(text)
            self.assertIs(type(found), list)
            self.assertEqual(found, word)

    def test_wishes(self):
        chosen = random.Random(20)
        for length in (1, 2, 3, 12, 40):
            for unused in range(20):
                wish = tuple(chosen.choice([None, chosen.randrange(length)]) for x in range(length))
                text = texts.wish_text(wish)
                self.assertEqual(text, " ".join("?" if item is None else str(item) for item in wish))
                found = texts.wish_in(text)
                self.assertIs(type(found), tuple)
                self.assertEqual(found, wish)

    def test_edges(self):
        self.assertEqual(texts.state_in("0"), (0,))
        self.assertEqual(texts.wish_in("?"), (None,))
        self.assertEqual(texts.wish_in("0"), (0,))
        self.assertEqual(texts.wish_in("? ? ?"), (None, None, None))
        self.assertEqual(texts.word_in("-"), [])
        self.assertEqual(texts.word_in("0"), [0])
        self.assertEqual(texts.word_in("0 0 0"), [0, 0, 0])
        self.assertEqual(texts.word_in(str(LARGEST)), [LARGEST])
        self.assertEqual(texts.word_in("1000000000000 9 10"), [10 ** 12, 9, 10])

    def test_more_than_forty_people(self):
        state = samples.ring_state(500)
        self.assertEqual(texts.state_in(texts.state_text(state)), state)
        self.assertEqual(texts.wish_in("? " * 499 + "499"), (None,) * 499 + (499,))


class Wrong(ErrorCase):
    def check(self, at, text, *functions):
        for function in functions or (texts.state_in, texts.word_in, texts.wish_in):
            self.check_raises(BadText(at), function, text)

    def test_words_that_are_wrong_at_any_place(self):
        for wrong in NO_NUMBERS:
            self.check(0, wrong)
            self.check(0, wrong + " 0")
            self.check(1, "0 " + wrong)
            self.check(1, f"1 {wrong} 0")
            self.check(39, "0 " * 39 + wrong)
            self.check(20, "0 " * 20 + wrong + " 0" * 19)

    def test_only_the_first_wrong_word_counts(self):
        self.check(1, "0 01 -1 x")
        self.check(2, "0 1 x 02")
        self.check(0, "x y z")
        self.check(1, "2  9")

    def test_blanks(self):
        self.check(0, "")
        self.check(0, " ")
        self.check(0, "  ")
        self.check(0, " 0")
        self.check(1, "0 ")
        self.check(1, "0  0")
        self.check(2, "0 0  0")
        self.check(2, "0 1 ")
        self.check(1, "0   0")

    def test_an_empty_word_is_counted(self):
        self.check(1, "1 ", texts.state_in, texts.wish_in)
        self.check(1, "2  0", texts.state_in, texts.wish_in)
        self.check(0, "3  0", texts.state_in, texts.wish_in)
        self.check(0, " 0", texts.state_in, texts.wish_in)
        self.check(0, "2 ", texts.state_in, texts.wish_in)

    def test_dashes(self):
        self.check(0, "-", texts.state_in, texts.wish_in)
        self.check(0, "- 0")
        self.check(1, "0 -")
        self.check(1, "0 - 0")
        self.check(0, "- -")
        self.check(0, "- ")
        self.check(0, " -")

    def test_question_marks(self):
        self.check(0, "?", texts.state_in, texts.word_in)
        self.check(1, "0 ?", texts.state_in, texts.word_in)
        self.check(0, "? 0", texts.state_in, texts.word_in)
        self.check(1, "? -", texts.wish_in)
        self.check(1, "? ", texts.wish_in)

    def test_numbers_that_are_not_less_than_the_number_of_words(self):
        both = (texts.state_in, texts.wish_in)
        self.check(0, "1", *both)
        self.check(0, "2 0", *both)
        self.check(1, "0 2", *both)
        self.check(2, "1 2 3", *both)
        self.check(1, "1 9999999999999 0", *both)
        self.check(39, "0 " * 39 + "40", *both)
        self.check(1, "? 2", texts.wish_in)
        self.check(1, "0 3 x", *both)
        self.check(2, "0 2 x", *both)
        self.check(0, "3 x 0", *both)
        self.assertEqual(texts.state_in("0 " * 39 + "39"), (0,) * 39 + (39,))

    def test_no_limit_in_words(self):
        self.assertEqual(texts.word_in("1"), [1])
        self.assertEqual(texts.word_in("7 0"), [7, 0])
        self.check(1, "7 x", texts.word_in)
        self.check(1, "9999999999999 10000000000000", texts.word_in)


if __name__ == "__main__":
    unittest.main()
