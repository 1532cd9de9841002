"""Other numbers, other people: STATEs that are renumbered, joined, or left by somebody."""

from lookpast.errors import IsRoot
from lookpast.states import check_person, components, state_of


def renumbered(state, numbers):
    """Return the STATE in which person x has the number numbers[x]."""
    return state_of([(numbers[person], numbers[target]) for person, target in enumerate(state)])


def number_without(number, person):
    """Return the number that one of the others has when person has left."""
    return number - 1 if number > person else number


def bypassed(state, person):
    """Return the STATE of the others; who points at person points past them. Raises NoPerson, then IsRoot."""
    check_person(state, person)
    if state[person] == person:
        raise IsRoot(person)
    others = [target for other, target in enumerate(state) if other != person]
    beyond = [state[person] if target == person else target for target in others]
    return tuple([number_without(target, person) for target in beyond])


def joined(one, other):
    """Return the STATE of the people of both, those of other with the higher numbers."""
    return tuple(one) + tuple([target + len(one) for target in other])


def part_of(state, person):
    """Return the STATE of the component of person, its people numbered from 0 on. Raises NoPerson."""
    check_person(state, person)
    group = [members for members in components(state) if person in members][0]
    return tuple([group.index(state[member]) for member in group])
