"""What the document says, read as plainly as can be and done one by one, to compare the package with."""

import functools
import itertools


def follow(state, person, steps):
    for unused in range(steps):
        person = state[person]
    return person


def follow_far(state, person, steps):
    """Like follow, for many steps: in jumps of 1, 2, 4, .. pointers."""
    jump = list(state)
    while steps:
        if steps % 2:
            person = jump[person]
        jump = [jump[target] for target in jump]
        steps //= 2
    return person


@functools.lru_cache(maxsize=None)
def way(state, person):
    met = []
    for steps in range(1, len(state) + 1):
        target = follow(state, person, steps)
        if target not in met:
            met.append(target)
    return met


@functools.lru_cache(maxsize=None)
def is_on_ring(state, person):
    return any(follow(state, person, steps) == person for steps in range(1, len(state) + 1))


def height(state, person):
    steps = 0
    while not is_on_ring(state, follow(state, person, steps)):
        steps += 1
    return steps


@functools.lru_cache(maxsize=None)
def ring_of(state, person):
    least = min(target for target in way(state, person) if is_on_ring(state, target))
    ring = [least]
    while state[ring[-1]] != least:
        ring.append(state[ring[-1]])
    return tuple(ring)


@functools.lru_cache(maxsize=None)
def rings(state):
    found = []
    for person in range(len(state)):
        if is_on_ring(state, person) and person == min(way(state, person)):
            found.append(ring_of(state, person))
    return found


@functools.lru_cache(maxsize=None)
def components(state):
    ends = [follow(state, person, len(state)) for person in range(len(state))]
    found = []
    for person in range(len(state)):
        group = tuple(x for x in range(len(state)) if ends[x] in way(state, ends[person]))
        if group not in found:
            found.append(group)
    return found


def call(state, person):
    target = state[person]
    beyond = state[target]
    return tuple(beyond if x == person else state[x] for x in range(len(state)))


def call_all(state, word):
    for person in word:
        state = call(state, person)
    return state


@functools.lru_cache(maxsize=None)
def futures(state):
    """All states that calls lead to, found layer by layer."""
    found = {state}
    layer = [state]
    while layer:
        after = {call(old, person) for old in layer for person in range(len(old))}
        layer = sorted(after - found)
        found |= after
    return frozenset(found)


def component_of(state, person):
    return next(group for group in components(state) if person in group)


def steps_to(state, person, target):
    """How many pointers lead from person to target, at least one; None if they never do."""
    for steps in range(1, len(state) + 1):
        if follow(state, person, steps) == target:
            return steps
    return None


def is_ring_met_in_order(state, x, y, z):
    """Whether the ring of x meets y before z, from x on."""
    return steps_to(state, x, y) < steps_to(state, x, z)


def is_way_obstacle(state, goal, x):
    return goal[x] not in way(state, x)


def is_rings_obstacle(state, goal, x, y):
    if not (x < y and is_on_ring(goal, x) and is_on_ring(goal, y)):
        return False
    return y not in way(goal, x) and component_of(state, x) == component_of(state, y)


def is_order_obstacle(state, goal, x, y, z):
    if len({x, y, z}) < 3:
        return False
    for some in (state, goal):
        if not (is_on_ring(some, x) and is_on_ring(some, y) and is_on_ring(some, z)):
            return False
        if not (y in way(some, x) and z in way(some, x)):
            return False
    return is_ring_met_in_order(goal, x, y, z) and is_ring_met_in_order(state, x, z, y)


OBSTACLES = {"way": (is_way_obstacle, 1), "rings": (is_rings_obstacle, 2), "order": (is_order_obstacle, 3)}


def is_obstacle(state, goal, value):
    """Point [6] for a tuple of one of the three forms, of any integers."""
    test, many = OBSTACLES[value[0]]
    people = value[1:]
    assert len(people) == many, value
    return all(0 <= x < len(state) for x in people) and test(state, goal, *people)


def obstacle(state, goal):
    """The obstacle that point [6] chooses."""
    people = range(len(state))
    for x in people:
        if is_way_obstacle(state, goal, x):
            return ("way", x)
    least = [ring[0] for ring in rings(goal)]
    pairs = [(x, y) for x in least for y in least if is_rings_obstacle(state, goal, x, y)]
    if pairs:
        return ("rings",) + min(pairs)
    for ring in sorted(rings(goal)):
        x = ring[0]
        for y, z in zip(ring[1:], ring[2:]):
            if is_order_obstacle(state, goal, x, y, z):
                return ("order", x, y, z)
    return None


def code(state):
    return tuple(-1 if is_on_ring(state, x) else state[x] for x in range(len(state)))


@functools.lru_cache(maxsize=None)
def pasts(state):
    """All states that lead to a state, found by a search from each state of as many people."""
    everything = itertools.product(range(len(state)), repeat=len(state))
    return frozenset(past for past in everything if state in futures(past))


def kin(state):
    """All states that lead to a state and that it leads to, in ascending order."""
    return sorted(other for other in futures(state) if state in futures(other))


def people_bar(one, other):
    for x in range(len(one)):
        if component_of(one, x) != component_of(other, x):
            return ("people", x)
    return None


def shared(one, other, group):
    """The members of a component who are on the rings of both states, in ascending order."""
    return [x for x in group if is_on_ring(one, x) and is_on_ring(other, x)]


def future_bar(one, other):
    if people_bar(one, other) is not None:
        return people_bar(one, other)
    for x in range(len(one)):
        if not shared(one, other, component_of(one, x)):
            return ("rings", x)
    return None


def past_bar(one, other):
    if people_bar(one, other) is not None:
        return people_bar(one, other)
    for group in components(one):
        for x in shared(one, other, group)[:1]:
            behind = sorted(shared(one, other, group)[1:], key=lambda y: steps_to(one, x, y))
            for y, z in zip(behind, behind[1:]):
                if is_ring_met_in_order(other, x, z, y):
                    return ("order", x, y, z)
    return None


def laps(state, past):
    """The LAPS of a ring past, by point [11]."""
    found = []
    for group in components(state):
        first = min(x for x in group if is_on_ring(state, x))
        found.append(tuple(follow(past, first, steps) for steps in range(len(group))))
    return found


def lines(state, past):
    """The LINES of a line past, by point [11]."""
    found = []
    for group in components(state):
        first = next(x for x in group if not any(past[y] == x for y in group if y != x))
        found.append(tuple(follow(past, first, steps) for steps in range(len(group))))
    return found


def is_all_rings(past):
    return all(is_on_ring(past, x) for x in range(len(past)))


def is_all_lines(past):
    people = range(len(past))
    has_roots = all(any(past[x] == x for x in group) for group in components(past))
    return has_roots and all(sum(past[y] == x for y in people if y != x) <= 1 for x in people)


def meets(state, wish):
    return all(wish[x] in (None, state[x]) for x in range(len(state)))


def closed_ring_from(wish, x):
    """The closed ring on which x is, from x on; None if there is none."""
    met = [x]
    for unused in wish:
        after = wish[met[-1]]
        if after is None:
            return None
        if after == x:
            return tuple(met)
        met.append(after)
    return None


def closed_rings(wish):
    found = [closed_ring_from(wish, x) for x in range(len(wish))]
    return [ring for ring in found if ring is not None and ring[0] == min(ring)]


def wish_obstacle(state, wish):
    """The obstacle of a wish that is chosen as in point [6]."""
    for x, target in enumerate(wish):
        if target is not None and target not in way(state, x):
            return ("way", x)
    closed = closed_rings(wish)
    least = [ring[0] for ring in closed]
    pairs = [(x, y) for x in least for y in least if x < y and component_of(state, x) == component_of(state, y)]
    if pairs:
        return ("rings",) + min(pairs)
    for ring in sorted(closed):
        for y, z in zip(ring[1:], ring[2:]):
            if is_ring_met_in_order(state, ring[0], z, y):
                return ("order", ring[0], y, z)
    return None


def repetitions(state, word):
    """The states after 0, 1, 2, .. repetitions done one by one, each once, and the number of the one that recurs."""
    found = {}
    while state not in found:
        found[state] = len(found)
        state = call_all(state, word)
    return list(found), found[state]


def after_repetitions(state, word, many):
    along, begin = repetitions(state, word)
    return along[many] if many < len(along) else along[begin + (many - begin) % (len(along) - begin)]


def first_words(state):
    """For each future the least of the words that lead to it in the fewest calls, layer by layer."""
    found = {state: []}
    layer = {state: []}
    while layer:
        longer = sorted((layer[old] + [person], call(old, person)) for old in layer for person in range(len(old)))
        layer = {}
        for word, after in longer:
            if after not in found and after not in layer:
                layer[after] = word
        found.update(layer)
    return found


def words_many(state, size):
    """For each state how many words of so many calls lead to it, a list for the sizes 0 to size."""
    counts = [{state: 1}]
    for unused in range(size):
        longer = {}
        for old, many in counts[-1].items():
            for person in range(len(old)):
                after = call(old, person)
                longer[after] = longer.get(after, 0) + many
        counts.append(longer)
    return counts
