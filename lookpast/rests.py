"""Rest: states in which every call is idle, and the fewest calls that lead to one."""

from lookpast.calls import check_word
from lookpast.counting import product
from lookpast.errors import MissingRoot, NoRoot
from lookpast.states import is_person, ring_of, rings, way


def is_at_rest(state):
    """Tell whether every call is idle."""
    return all([state[target] == target for target in state])


def rests_many(state):
    """Return the number of futures at rest."""
    return product([len(ring) for ring in rings(state)])


def check_roots(state, roots):
    """Raise NoPerson, NoRoot or MissingRoot unless roots has one member of each ring and nothing else."""
    check_word(state, roots)
    served = set()
    for person in roots:
        ring = ring_of(state, person)
        if person not in ring or ring in served:
            raise NoRoot(person)
        served.add(ring)
    for ring in rings(state):
        if ring not in served:
            raise MissingRoot(ring[0])


def rest_with(state, roots):
    """Return the future at rest in which everybody points at the root of their component."""
    check_roots(state, roots)
    root_of = {ring_of(state, root): root for root in roots}
    return tuple([root_of[ring_of(state, person)] for person in range(len(state))])


def people_astray(state, roots):
    """Return the ascending list of the people who do not point at the root of their component."""
    rest = rest_with(state, roots)
    return [person for person in range(len(state)) if state[person] != rest[person]]


def fewest_to_rest(state, roots):
    """Return the fewest calls that lead to the future at rest with these roots."""
    return len(people_astray(state, roots))


def word_to_rest(state, roots):
    """Return a WORD of the fewest calls that leads to the future at rest with these roots."""
    rest = rest_with(state, roots)
    # Whoever is nearer to the root comes first: then one call is enough for each of them.
    ordered = [(way(state, person).index(rest[person]), person) for person in people_astray(state, roots)]
    return [person for steps, person in sorted(ordered)]


def shows_fewest(state, roots, value):
    """Tell whether value is the ascending list of the people who do not point at the root of their component."""
    astray = people_astray(state, roots)
    if not isinstance(value, list):
        return False
    return all([is_person(item, len(state)) for item in value]) and value == astray
