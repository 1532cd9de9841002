"""Search of small STATEs: all futures, and the words that lead to them, found layer by layer."""

from lookpast.calls import called
from lookpast.errors import TooMany
from lookpast.futures import futures_many
from lookpast.reach import check_size

MOST = 2000


def check_many(state):
    """Raise TooMany if there are too many futures for a search."""
    many = futures_many(state)
    if many > MOST:
        raise TooMany(many)


def moves(state):
    """Return the list of the pairs of a person whose call is not idle and the STATE after it, in ascending order."""
    busy = [person for person, target in enumerate(state) if state[target] != target]
    return [(person, called(state, person)) for person in busy]


def first_words(state):
    """Return a dict of all futures, each with the first of the shortest WORDs that lead to it."""
    words = {tuple(state): []}
    layer = [tuple(state)]
    while layer:
        following = []
        # Each layer is in the order of its words, so the first word that is found for a future is the first of all.
        for before in layer:
            for person, after in moves(before):
                if after not in words:
                    words[after] = words[before] + [person]
                    following.append(after)
        layer = following
    return words


def all_futures(state):
    """Return the ascending list of all futures. Raises TooMany."""
    check_many(state)
    return sorted(first_words(state))


def first_word(state, goal):
    """Return the first of the shortest WORDs that turn the STATE into goal, or None. Raises OtherSize, TooMany."""
    check_size(state, goal)
    check_many(state)
    return first_words(state).get(tuple(goal))


def distance(state, goal):
    """Return the length of a shortest WORD that turns the STATE into goal, or None. Raises OtherSize, TooMany."""
    word = first_word(state, goal)
    return None if word is None else len(word)


def one_call_more(many, moves_from):
    """Return for each STATE how many words lead to it, from the same for the words that are shorter by a call."""
    longer = {}
    for before in many:
        idle = len(before) - len(moves_from[before])
        longer[before] = longer.get(before, 0) + many[before] * idle
        for person, after in moves_from[before]:
            longer[after] = longer.get(after, 0) + many[before]
    return longer


def words_many(state, goal, size):
    """Return how many WORDs of so many calls turn the STATE into goal. Raises OtherSize, TooMany."""
    check_size(state, goal)
    moves_from = {future: moves(future) for future in all_futures(state)}
    many = {tuple(state): 1}
    for unused in range(size):
        many = one_call_more(many, moves_from)
    return many.get(tuple(goal), 0)
