"""Calls: people who are called look past the person at whom they point."""

from lookpast.states import check_person


def check_word(state, word):
    """Raise NoPerson for the first integer of a word that is not one of the people."""
    for person in word:
        check_person(state, person)


def called(state, person):
    """Return the STATE after a call of person."""
    return called_all(state, [person])


def called_all(state, word):
    """Return the STATE after all calls of a word."""
    check_word(state, word)
    pointers = list(state)
    for person in word:
        pointers[person] = pointers[pointers[person]]
    return tuple(pointers)


def states_along(state, word):
    """Return the list of the STATE before the first call and after each call."""
    check_word(state, word)
    along = [tuple(state)]
    for person in word:
        along.append(called(along[-1], person))
    return along


def idle_calls(state, word):
    """Return the ascending list of the indices of the calls that change nothing."""
    along = states_along(state, word)
    return [at for at in range(len(word)) if along[at] == along[at + 1]]
