"""Wishes: which pointers can be had at the same time in a future."""

from lookpast.errors import Denied
from lookpast.reach import check_size, closed_rings, first_obstacle
from lookpast.states import check_person, height, ring_of, route_from, way


def meets(state, wish):
    """Tell whether everybody points at their item of the WISH, unless it is None. Raises OtherSize."""
    check_size(state, wish)
    return all([item is None or item == target for target, item in zip(state, wish)])


def wish_obstacle(state, wish):
    """Return None if some future meets the WISH, otherwise the chosen WISH-OBSTACLE. Raises OtherSize."""
    check_size(state, wish)
    return first_obstacle(state, wish)


def check_wish(state, wish):
    """Raise OtherSize or Denied if no future meets the WISH."""
    found = wish_obstacle(state, wish)
    if found is not None:
        raise Denied(found)


def hub_of(wish, ring):
    """Return a member of a ring of the STATE to whom all its members can lead, if the WISH can be granted."""
    wished = [closed[0] for closed in closed_rings(wish) if closed[0] in ring]
    free = [person for person in ring if wish[person] is None]
    return wished[0] if wished else free[0]


def granted(state, wish):
    """Return a future of the STATE that meets the WISH. Raises OtherSize, then Denied."""
    check_wish(state, wish)
    pointers = list(wish)
    for person in range(len(state)):
        if wish[person] is None:
            is_outside = height(state, person) > 0
            pointers[person] = state[person] if is_outside else hub_of(wish, ring_of(state, person))
    return tuple(pointers)


def can_point(state, wish, person, target):
    """Tell whether person, who has no item in a WISH that can be granted, can be given one of their way."""
    # Only a pointer that closes a ring can spoil the WISH.
    if person not in route_from(wish, target):
        return True
    pointers = list(wish)
    pointers[person] = target
    return first_obstacle(state, pointers) is None


def pointers_for(state, wish, person):
    """Return the ascending list of all people at whom person points in some future that meets the WISH.

    Raises OtherSize, then NoPerson.
    """
    check_size(state, wish)
    check_person(state, person)
    if first_obstacle(state, wish) is not None:
        return []
    if wish[person] is not None:
        return [wish[person]]
    return [target for target in sorted(way(state, person)) if can_point(state, wish, person, target)]


def forced(state, wish):
    """Return the WISH of all pointers that all futures that meet the WISH have in common.

    Raises OtherSize, then Denied.
    """
    check_wish(state, wish)
    targets = [pointers_for(state, wish, person) for person in range(len(state))]
    return tuple([people[0] if len(people) == 1 else None for people in targets])
