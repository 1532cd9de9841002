"""Numbers of futures: how many there are, and each one by its number."""

from lookpast.counting import number_in, product, sequence_at
from lookpast.reach import check_future
from lookpast.states import height, ring_of, rings, route_from, way

ON_RING = -1


def code_of(state):
    """Return the CODE: -1 for each person on a ring, for the others the person at whom they point."""
    return tuple([ON_RING if height(state, person) == 0 else state[person] for person in range(len(state))])


def futures_many(state):
    """Return the number of futures, the STATE itself included."""
    outside = [len(way(state, person)) for person in range(len(state)) if height(state, person) > 0]
    inside = [product([len(ring) + 1] * (len(ring) - 1)) for ring in rings(state)]
    return product(outside) * product(inside)


def ends_in(ring, begun):
    """Return for each member of a ring whom their pointers lead to, as far as a begun CODE tells.

    It is ON_RING for those who are on the new ring or lead to it, otherwise a member without a pointer.
    """
    pointers = {}
    for person in ring:
        known = person < len(begun) and begun[person] != ON_RING
        pointers[person] = begun[person] if known else None
    ends = {}
    for person in ring:
        last = route_from(pointers, person)[-1]
        ends[person] = ON_RING if last < len(begun) else last
    return ends


def member_shares(ring, begun, person):
    """Return the shares for a member of a ring of the STATE.

    The number of ways to go on is a power of the length of the ring plus one, the same for all choices, times the
    number of those who lead to the new ring then, plus one; so this is the share.
    """
    ends = ends_in(ring, begun)
    settled = len([member for member in ring if ends[member] == ON_RING])
    behind = len([member for member in ring if ends[member] == person])
    pairs = [(ON_RING, settled + behind + 1)]
    for target in sorted(ring):
        if ends[target] == ON_RING:
            pairs.append((target, settled + behind + 1))
        elif ends[target] != person:
            pairs.append((target, settled + 1))
    return pairs


def code_shares(state, begun):
    """Return the shares for the person whose item comes next in a begun CODE."""
    person = len(begun)
    ring = ring_of(state, person)
    if person in ring:
        return member_shares(ring, begun, person)
    return [(target, 1) for target in sorted(way(state, person))]


def state_with(state, code):
    """Return the future of the STATE that has this CODE."""
    pointers = list(code)
    for ring in rings(state):
        kept = [person for person in ring if code[person] == ON_RING]
        for person, target in zip(kept, kept[1:] + kept[:1]):
            pointers[person] = target
    return tuple(pointers)


def future_at(state, number):
    """Return the future with this number. Raises NoNumber."""
    return state_with(state, sequence_at(code_shares, state, futures_many(state), number))


def number_of(state, goal):
    """Return the number of a future. Raises OtherSize, then Unreachable."""
    check_future(state, goal)
    return number_in(code_shares, state, futures_many(state), code_of(goal))
