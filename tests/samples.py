"""States and words for the tests, always the same ones."""

import itertools
import random

RING = (1, 2, 0)
LINE = (0, 0, 1, 2)
MIXED = (1, 0, 0, 2)

LIMIT = 40


def small_states(most=4):
    """All states of one to most people."""
    for size in range(1, most + 1):
        yield from itertools.product(range(size), repeat=size)


def ring_state(size):
    return tuple((x + 1) % size for x in range(size))


def line_state(size):
    return tuple(max(x - 1, 0) for x in range(size))


def lasso_state(size, begin):
    """A line from person 0 on that runs into a ring whose first member is begin."""
    return tuple(list(range(1, size)) + [begin])


def large_states():
    """States of 5 to 40 people: rings, lines, roots, lassos, and mixed ones."""
    chosen = random.Random(40)
    for size in (5, 12, 39, LIMIT):
        yield ring_state(size)
        yield tuple(reversed(range(size)))
        yield line_state(size)
        yield tuple(range(size))
        yield (0,) * size
        yield lasso_state(size, 3)
        yield lasso_state(size, size - 2)
        for unused in range(4):
            yield tuple(chosen.randrange(size) for x in range(size))
        yield turned_ring(size, chosen)


def turned_ring(size, chosen):
    """A ring of everybody in an order that is not that of the numbers."""
    order = list(range(size))
    chosen.shuffle(order)
    after = dict(zip(order, order[1:] + order[:1]))
    return tuple(after[x] for x in range(size))


def all_samples():
    yield from small_states()
    yield from large_states()


def words_for(state, seed=7):
    """Words for a state: empty, short and long, with people called again and again."""
    size = len(state)
    chosen = random.Random(seed)
    yield []
    yield list(range(size))
    yield [size - 1] * (size + 1)
    for length in (1, 2, 5, 60):
        yield [chosen.randrange(size) for at in range(length)]


def strangers(state):
    """Integers that are not among the people of a state."""
    size = len(state)
    return [-1, -size, -size - 1, size, size + 1, -10 ** 12, 10 ** 12, 10 ** 5000]
