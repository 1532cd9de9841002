"""Futures: which STATE a STATE can become, by which calls, and what shows that it cannot."""

from lookpast.calls import called_all
from lookpast.errors import OtherSize, Unreachable
from lookpast.states import height, is_person, ring_of, rings, route_from, turned, way


def check_size(state, other):
    """Raise OtherSize if the second of the two is not for as many people."""
    if len(other) != len(state):
        raise OtherSize(len(other))


def check_future(state, goal):
    """Raise OtherSize or Unreachable if goal is not a future of the STATE."""
    found = obstacle(state, goal)
    if found is not None:
        raise Unreachable(found)


def closed_rings(pointers):
    """Return the ascending list of the RINGs of pointers, of which some may be None."""
    found = []
    for person in range(len(pointers)):
        route = route_from(pointers, person)
        if pointers[route[-1]] == person and min(route) == person:
            found.append(tuple(route))
    return found


def missed_way(state, pointers):
    """Return the OBSTACLE of the least person whose pointer is not on their way, or None."""
    for person, target in enumerate(pointers):
        if target is not None and target not in way(state, person):
            return ("way", person)
    return None


def second_ring(state, closed):
    """Return the OBSTACLE of the first two of the ascending rings that lie in one component, or None."""
    ends = [ring_of(state, ring[0]) for ring in closed]
    for at, end in enumerate(ends):
        for later in range(at + 1, len(ends)):
            if ends[later] == end:
                return ("rings", closed[at][0], closed[later][0])
    return None


def meets_first(ring, start, early, late):
    """Tell whether a ring meets early before late, from start on."""
    order = turned(ring, start)
    return order.index(early) < order.index(late)


def order_broken(members, ring):
    """Return the OBSTACLE of the first two neighbours whom the ring meets the other way round, or None.

    Only members of the ring are in members; both are followed from the first of members on.
    """
    for early, late in zip(members[1:], members[2:]):
        if meets_first(ring, members[0], late, early):
            return ("order", members[0], early, late)
    return None


def first_obstacle(state, pointers):
    """Return the OBSTACLE that obstacle chooses, for pointers of which some may be None, or None."""
    missed = missed_way(state, pointers)
    if missed is not None:
        return missed
    closed = closed_rings(pointers)
    second = second_ring(state, closed)
    if second is not None:
        return second
    # With all pointers on the ways, the members of a closed ring are members of one old ring.
    for ring in closed:
        broken = order_broken(ring, ring_of(state, ring[0]))
        if broken is not None:
            return broken
    return None


def obstacle(state, goal):
    """Return None if the STATE leads to goal, otherwise the chosen OBSTACLE."""
    check_size(state, goal)
    return first_obstacle(state, goal)


def leads(state, goal):
    """Tell whether the STATE leads to goal."""
    return obstacle(state, goal) is None


def are_apart(state, goal, low, high):
    """Tell whether two people, the lesser one first, are on two rings of goal in one component of the STATE."""
    low_ring = ring_of(goal, low)
    high_ring = ring_of(goal, high)
    if low not in low_ring or high not in high_ring or low_ring == high_ring:
        return False
    return low < high and ring_of(state, low) == ring_of(state, high)


def are_reversed(state, goal, people):
    """Tell whether three people are on one ring of both, and met in another order there."""
    start, early, late = people
    old_ring = ring_of(state, start)
    new_ring = ring_of(goal, start)
    if not all([person in old_ring and person in new_ring for person in people]):
        return False
    # No person who is given twice is met in both orders, so this asks for three different people, too.
    return meets_first(new_ring, start, early, late) and meets_first(old_ring, start, late, early)


def is_obstacle(state, goal, value):
    """Tell whether value is an OBSTACLE of state and goal."""
    check_size(state, goal)
    if not isinstance(value, tuple) or not 2 <= len(value) <= 4:
        return False
    kind = value[0]
    people = value[1:]
    if not all([is_person(item, len(state)) for item in people]):
        return False
    if kind == "way" and len(people) == 1:
        return goal[people[0]] not in way(state, people[0])
    if kind == "rings" and len(people) == 2:
        return are_apart(state, goal, people[0], people[1])
    if kind == "order" and len(people) == 3:
        return are_reversed(state, goal, people)
    return False


def outside_calls(state, goal):
    """Return the calls after which everybody off the rings points as in goal."""
    outside = [(-height(state, person), person) for person in range(len(state)) if height(state, person) > 0]
    word = []
    # Whoever is farthest out comes first: then nobody on their way has changed yet.
    for unused, person in sorted(outside):
        word += [person] * way(state, person).index(goal[person])
    return word


def ring_calls(ring, goal):
    """Return the calls after which the members of a ring point as in goal."""
    leaving = [(-height(goal, person), person) for person in ring if height(goal, person) > 0]
    members = list(ring)
    word = []
    # Whoever is farthest out in goal leaves first: then the person at whom they shall point is still on the ring.
    for unused, person in sorted(leaving):
        members = turned(members, person)[1:]
        # The last one looks past the leaving person, who then turns along the ring.
        word.append(members[-1])
        word += [person] * members.index(goal[person])
    return word


def word_to(state, goal):
    """Return a WORD that turns the STATE into goal."""
    check_future(state, goal)
    word = outside_calls(state, goal)
    for ring in rings(state):
        word += ring_calls(ring, goal)
    return word


def is_word_to(state, goal, value):
    """Tell whether value is a list of people whose calls turn the STATE into goal."""
    check_size(state, goal)
    if not isinstance(value, list):
        return False
    if not all([is_person(item, len(state)) for item in value]):
        return False
    return called_all(state, value) == tuple(goal)
