"""States: who points at whom, and the ways, rings and components that follow from it."""

from lookpast.errors import NoPerson


def is_person(value, size):
    """Tell whether a value is one of so many people."""
    # Python counts True and False as ints; here they are no integers.
    return isinstance(value, int) and not isinstance(value, bool) and 0 <= value < size


def is_state(value):
    """Tell whether a value is a STATE, of any size."""
    if not isinstance(value, tuple) or len(value) == 0:
        return False
    return all([is_person(item, len(value)) for item in value])


def state_of(pairs):
    """Return the STATE of the pairs of each person and the one at whom they point."""
    return tuple([target for person, target in sorted(pairs)])


def check_person(state, person):
    """Raise NoPerson for an integer that is not one of the people."""
    if not 0 <= person < len(state):
        raise NoPerson(person)


def route_from(pointers, person):
    """Return the people who are met from person on, person first, each once.

    A pointer that is not known is None; the route ends there.
    """
    route = []
    seen = set()
    at = person
    while at is not None and at not in seen:
        seen.add(at)
        route.append(at)
        at = pointers[at]
    return route


def turned(members, first):
    """Return the members of a ring in the same order, from first on."""
    at = members.index(first)
    return members[at:] + members[:at]


def ring_begin(state, route):
    """Return the index in a whole route of the first member of a ring."""
    # The last one on a route points back at the first member who was met.
    return route.index(state[route[-1]])


def way(state, person):
    """Return the list of the people on the way of person, in the order in which they are met."""
    check_person(state, person)
    return route_from(state, state[person])


def person_after(state, person, steps):
    """Return the person who is reached by following so many pointers from person."""
    check_person(state, person)
    route = route_from(state, person)
    if steps < len(route):
        return route[steps]
    begin = ring_begin(state, route)
    return route[begin + (steps - begin) % (len(route) - begin)]


def ring_of(state, person):
    """Return the RING in which the way of person ends."""
    check_person(state, person)
    route = route_from(state, person)
    members = route[ring_begin(state, route):]
    return tuple(turned(members, min(members)))


def rings(state):
    """Return the ascending list of all RINGs."""
    return sorted({ring_of(state, person) for person in range(len(state))})


def height(state, person):
    """Return the number of pointers from person to the first member of a ring."""
    check_person(state, person)
    return ring_begin(state, route_from(state, person))


def components(state):
    """Return the ascending list of all components, each as an ascending tuple."""
    groups = {}
    for person in range(len(state)):
        groups.setdefault(ring_of(state, person)[0], []).append(person)
    return sorted([tuple(groups[least]) for least in groups])
