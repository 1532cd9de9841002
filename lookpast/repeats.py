"""Words that are repeated: what they lead to, without doing every repetition.

A repetition can be taken back exactly if everybody who is called is a root or points at a member of a ring from
outside. Such a STATE is settled: from it on, each repetition turns the same pointers along their rings by the same
numbers of steps. Any other call drops somebody from a way or from a ring for ever, so this happens soon.
"""

from lookpast.calls import called_all, check_word
from lookpast.states import check_person, height, person_after, ring_of


def is_settled(state, word):
    """Tell whether the repetitions of a WORD lead back to the STATE, again and again."""
    return all([state[person] == person or height(state, person) == 1 for person in sorted(set(word))])


def states_until_settled(state, word):
    """Return the list of the STATEs after 0, 1, 2, .. repetitions, up to the first settled one. Raises NoPerson."""
    check_word(state, word)
    along = [tuple(state)]
    while not is_settled(along[-1], word):
        along.append(called_all(along[-1], word))
    return along


def pointer_later(settled, word, person, more):
    """Return at whom person points so many repetitions after a settled STATE."""
    # Whoever is on a ring of several, or farther out than its neighbours, is not called; a root stays where it is.
    return person_after(settled, settled[person], word.count(person) * more)


def common_divisor(one, other):
    """Return the greatest common divisor of two integers from 0 on, not both 0."""
    while other > 0:
        one, other = other, one % other
    return one


def turn_period(settled, word, person):
    """Return after how many repetitions person points at the same one as in a settled STATE again."""
    length = len(ring_of(settled, person))
    return length // common_divisor(length, word.count(person))


def repeated(state, word, many):
    """Return the STATE after many repetitions of a WORD. Raises NoPerson."""
    along = states_until_settled(state, word)
    begin = len(along) - 1
    if many <= begin:
        return along[many]
    return tuple([pointer_later(along[-1], word, person, many - begin) for person in range(len(state))])


def settles(state, word):
    """Return the pair of the repetitions until the STATE recurs for ever, and of those until it does so first.

    Raises NoPerson.
    """
    along = states_until_settled(state, word)
    period = 1
    for person in range(len(state)):
        own = turn_period(along[-1], word, person)
        period = period * own // common_divisor(period, own)
    return (len(along) - 1, period)


def turning(state, word):
    """Return the ascending list of the people whose pointers go on changing from repetition to repetition.

    Raises NoPerson.
    """
    settled = states_until_settled(state, word)[-1]
    return [person for person in range(len(state)) if turn_period(settled, word, person) > 1]


def first_time(state, word, person, target):
    """Return the least number of repetitions after which person points at target, or None. Raises NoPerson."""
    along = states_until_settled(state, word)
    check_person(state, person)
    check_person(state, target)
    pointers = [reached[person] for reached in along]
    for more in range(1, turn_period(along[-1], word, person)):
        pointers.append(pointer_later(along[-1], word, person, more))
    return pointers.index(target) if target in pointers else None
