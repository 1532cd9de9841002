"""Both ways: STATEs that lead to each other."""

from lookpast.counting import number_in, product, sequence_at
from lookpast.errors import NotKin
from lookpast.reach import leads
from lookpast.states import height, ring_of


def are_kin(one, other):
    """Tell whether each of two STATEs leads to the other. Raises OtherSize."""
    return leads(one, other) and leads(other, one)


def kin_targets(state, person):
    """Return the ascending list of all people at whom person points in some kin STATE."""
    # Only a pointer from outside a ring at one of its members can be turned, and turned back.
    if height(state, person) == 1:
        return sorted(ring_of(state, person))
    return [state[person]]


def kin_many(state):
    """Return how many STATEs are kin to this one, itself included."""
    return product([len(kin_targets(state, person)) for person in range(len(state))])


def kin_shares(state, begun):
    """Return the shares for the person whose pointer comes next in a begun STATE."""
    return [(target, 1) for target in kin_targets(state, len(begun))]


def kin_at(state, number):
    """Return the kin STATE with this number. Raises NoNumber."""
    return tuple(sequence_at(kin_shares, state, kin_many(state), number))


def kin_number(state, other):
    """Return the number of other among the kin STATEs. Raises OtherSize, then NotKin."""
    if not are_kin(state, other):
        raise NotKin()
    return number_in(kin_shares, state, kin_many(state), other)
