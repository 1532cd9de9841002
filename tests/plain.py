"""What the document says of states and calls, done one by one, to compare the package with."""


def follow(state, person, steps):
    for unused in range(steps):
        person = state[person]
    return person


def follow_far(state, person, steps):
    """Like follow, for many steps: in jumps of 1, 2, 4, .. pointers."""
    jump = list(state)
    while steps:
        if steps % 2:
            person = jump[person]
        jump = [jump[target] for target in jump]
        steps //= 2
    return person


def way(state, person):
    met = []
    for steps in range(1, len(state) + 1):
        target = follow(state, person, steps)
        if target not in met:
            met.append(target)
    return met


def is_on_ring(state, person):
    return any(follow(state, person, steps) == person for steps in range(1, len(state) + 1))


def height(state, person):
    steps = 0
    while not is_on_ring(state, follow(state, person, steps)):
        steps += 1
    return steps


def ring_of(state, person):
    least = min(target for target in way(state, person) if is_on_ring(state, target))
    ring = [least]
    while state[ring[-1]] != least:
        ring.append(state[ring[-1]])
    return tuple(ring)


def rings(state):
    found = []
    for person in range(len(state)):
        if is_on_ring(state, person) and person == min(way(state, person)):
            found.append(ring_of(state, person))
    return found


def components(state):
    ends = [follow(state, person, len(state)) for person in range(len(state))]
    found = []
    for person in range(len(state)):
        group = tuple(x for x in range(len(state)) if ends[x] in way(state, ends[person]))
        if group not in found:
            found.append(group)
    return found


def call(state, person):
    target = state[person]
    beyond = state[target]
    return tuple(beyond if x == person else state[x] for x in range(len(state)))


def call_all(state, word):
    for person in word:
        state = call(state, person)
    return state
