"""Texts of STATEs, WORDs and WISHes: words that are separated by single blanks."""

from lookpast.errors import BadText

DIGITS = "0123456789"
MOST_DIGITS = 13
EMPTY = "-"
ANYBODY = "?"


def spaced(items):
    """Return the text of items, separated by blanks."""
    return " ".join([str(item) for item in items])


def state_text(state):
    """Return the text of a STATE."""
    return spaced(state)


def word_text(word):
    """Return the text of a WORD."""
    return spaced(word) if word else EMPTY


def wish_text(wish):
    """Return the text of a WISH."""
    return spaced([ANYBODY if item is None else item for item in wish])


def is_number(word):
    """Tell whether a word of a text is a number."""
    if not 1 <= len(word) <= MOST_DIGITS or not all([sign in DIGITS for sign in word]):
        return False
    return word == "0" or word[0] != "0"


def is_number_below(word, limit):
    """Tell whether a word of a text is a number less than limit."""
    return is_number(word) and int(word) < limit


def check_words(right):
    """Raise BadText for the first word of which it is not told that it is right."""
    for at, is_right in enumerate(right):
        if not is_right:
            raise BadText(at)


def number_in(text):
    """Return the number with this text. Raises BadText."""
    check_words([is_number(text)])
    return int(text)


def state_in(text):
    """Return the STATE with this text. Raises BadText."""
    words = text.split(" ")
    check_words([is_number_below(word, len(words)) for word in words])
    return tuple([int(word) for word in words])


def word_in(text):
    """Return the list of integers with this text. Raises BadText."""
    if text == EMPTY:
        return []
    words = text.split(" ")
    check_words([is_number(word) for word in words])
    return [int(word) for word in words]


def wish_in(text):
    """Return the WISH with this text. Raises BadText."""
    words = text.split(" ")
    check_words([word == ANYBODY or is_number_below(word, len(words)) for word in words])
    return tuple([None if word == ANYBODY else int(word) for word in words])
