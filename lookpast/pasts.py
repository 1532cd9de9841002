"""Pasts that are rings or lines: how many there are, and each one by its number."""

from lookpast.counting import factorial, number_in, product, sequence_at
from lookpast.errors import NotPast
from lookpast.reach import check_size, leads
from lookpast.states import components, height, ring_of, rings, route_from, state_of, turned


def ring_state(laps):
    """Return the STATE in which each person of a lap points at the next one, the last one at the first."""
    pairs = []
    for lap in laps:
        pairs += list(zip(lap, lap[1:] + lap[:1]))
    return state_of(pairs)


def line_state(lines):
    """Return the STATE in which each person of a line points at the next one, the last one at themselves."""
    pairs = []
    for line in lines:
        pairs += list(zip(line, line[1:] + line[-1:]))
    return state_of(pairs)


def split_up(state, order):
    """Return one list for each component, in ascending order, of its people in this order."""
    return [[person for person in order if person in group] for group in components(state)]


def people_left(state, begun):
    """Return the people not begun of the first component that has some."""
    left = [[person for person in group if person not in begun] for group in components(state)]
    return [people for people in left if people][0]


def ring_pasts_many(state):
    """Return the number of ring pasts."""
    many = 1
    for group in components(state):
        many *= factorial(len(group) - 1) // factorial(len(ring_of(state, group[0])) - 1)
    return many


def lap_shares(state, begun):
    """Return the shares for the person who comes next in the begun LAPS, one behind another."""
    left = people_left(state, begun)
    ring = ring_of(state, left[0])
    members = [person for person in ring if person not in begun]
    if members == list(ring):
        return [(ring[0], 1)]
    # Of all orders of the people left, one in m! has the m members left in the order of their ring. If the next
    # member is placed, only m - 1 of them are left: that is m times as many orders as with anybody else.
    following = [(person, len(members)) for person in members[:1]]
    return sorted(following + [(person, 1) for person in left if person not in members])


def ring_past_at(state, number):
    """Return the ring past with this number. Raises NoNumber."""
    order = sequence_at(lap_shares, state, ring_pasts_many(state), number)
    return ring_state(split_up(state, order))


def is_ring_past(state, past):
    """Tell whether past is a past in which everybody is on a ring."""
    return all([height(past, person) == 0 for person in range(len(past))]) and leads(past, state)


def ring_past_number(state, past):
    """Return the number of a ring past. Raises OtherSize, then NotPast."""
    check_size(state, past)
    if not is_ring_past(state, past):
        raise NotPast()
    order = []
    for group in components(state):
        order += list(turned(ring_of(past, group[0]), ring_of(state, group[0])[0]))
    return number_in(lap_shares, state, ring_pasts_many(state), order)


def orders_many(state, people):
    """Return in how many orders people can stand, each before the one at whom they point.

    With a person, everybody on their way is among the people; each of the ways ends at a root.
    """
    routes = [route_from(state, person) for person in people]
    behind = [len([route for route in routes if person in route]) for person in people]
    return factorial(len(people)) // product(behind)


def has_only_roots(state):
    """Tell whether every ring has one member."""
    return all([len(ring) == 1 for ring in rings(state)])


def line_pasts_many(state):
    """Return the number of line pasts."""
    if not has_only_roots(state):
        return 0
    return product([orders_many(state, group) for group in components(state)])


def points_among(state, people, target):
    """Return those of the people, target not counted, who point at target."""
    return [person for person in people if state[person] == target and person != target]


def line_shares(state, begun):
    """Return the shares for the person who comes next in the begun LINES, one behind another."""
    left = people_left(state, begun)
    free = [person for person in left if not points_among(state, left, person)]
    return [(person, orders_many(state, [other for other in left if other != person])) for person in free]


def line_past_at(state, number):
    """Return the line past with this number. Raises NoNumber."""
    order = sequence_at(line_shares, state, line_pasts_many(state), number)
    return line_state(split_up(state, order))


def is_line_past(state, past):
    """Tell whether past is a past in which each component is a line that ends at a root."""
    everybody = list(range(len(past)))
    if not all([len(points_among(past, everybody, person)) <= 1 for person in everybody]):
        return False
    return has_only_roots(past) and leads(past, state)


def line_past_number(state, past):
    """Return the number of a line past. Raises OtherSize, then NotPast."""
    check_size(state, past)
    if not is_line_past(state, past):
        raise NotPast()
    order = []
    for group in components(state):
        steps = sorted([(height(past, person), person) for person in group], reverse=True)
        order += [person for step, person in steps]
    return number_in(line_shares, state, line_pasts_many(state), order)
