"""Common futures and common pasts of two STATEs."""

from lookpast.errors import NoCommon
from lookpast.pasts import ring_state
from lookpast.reach import check_size, order_broken
from lookpast.rests import rest_with
from lookpast.states import components, ring_of, turned


def people_bar(one, other):
    """Return the bar of the least person whose component has other members in the other STATE, or None."""
    others = components(other)
    for group in components(one):
        if group not in others:
            return ("people", group[0])
    return None


def shared_members(one, other, person):
    """Return the common members of both rings of a person's component, as the ring of one meets them.

    The least one comes first.
    """
    ring = ring_of(other, person)
    shared = [member for member in ring_of(one, person) if member in ring]
    return turned(shared, min(shared)) if shared else []


def future_bar(one, other):
    """Return None if both have a common future, otherwise what shows that they have none. Raises OtherSize."""
    check_size(one, other)
    bar = people_bar(one, other)
    if bar is not None:
        return bar
    for group in components(one):
        if not shared_members(one, other, group[0]):
            return ("rings", group[0])
    return None


def common_future(one, other):
    """Return the common future at rest with the least common members of the rings as roots. Raises NoCommon."""
    bar = future_bar(one, other)
    if bar is not None:
        raise NoCommon(bar)
    return rest_with(one, [shared_members(one, other, group[0])[0] for group in components(one)])


def past_bar(one, other):
    """Return None if both have a common past, otherwise what shows that they have none. Raises OtherSize."""
    check_size(one, other)
    bar = people_bar(one, other)
    if bar is not None:
        return bar
    for group in components(one):
        broken = order_broken(shared_members(one, other, group[0]), ring_of(other, group[0]))
        if broken is not None:
            return broken
    return None


def merged(one_ring, other_ring):
    """Return the members of two rings in an order that both rings have.

    Their common members follow each other in the same order in both.
    """
    waiting = list(other_ring)
    members = []
    for person in one_ring:
        # Whoever comes before a common member on the other ring has to come before them here.
        while person in waiting:
            members.append(waiting.pop(0))
        if person not in other_ring:
            members.append(person)
    return members + waiting


def common_lap(one, other, group):
    """Return the people of a component in an order in which one ring of all of them leads to both STATEs."""
    one_ring = ring_of(one, group[0])
    other_ring = ring_of(other, group[0])
    shared = shared_members(one, other, group[0])
    if shared:
        one_ring = turned(one_ring, shared[0])
        other_ring = turned(other_ring, shared[0])
    members = merged(one_ring, other_ring)
    return members + [person for person in group if person not in members]


def common_past(one, other):
    """Return a common past of both. Raises NoCommon."""
    bar = past_bar(one, other)
    if bar is not None:
        raise NoCommon(bar)
    return ring_state([common_lap(one, other, group) for group in components(one)])
