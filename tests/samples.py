"""States and words for the tests, always the same ones."""

import itertools
import random

RING = (1, 2, 0)
LINE = (0, 0, 1, 2)
MIXED = (1, 0, 0, 2)

LIMIT = 40


def small_states(most=4):
    """All states of one to most people."""
    for size in range(1, most + 1):
        yield from itertools.product(range(size), repeat=size)


def ring_state(size):
    return tuple((x + 1) % size for x in range(size))


def line_state(size):
    return tuple(max(x - 1, 0) for x in range(size))


def lasso_state(size, begin):
    """A line from person 0 on that runs into a ring whose first member is begin."""
    return tuple(list(range(1, size)) + [begin])


def large_states():
    """States of 5 to 40 people: rings, lines, roots, lassos, and mixed ones."""
    chosen = random.Random(40)
    for size in (5, 12, 39, LIMIT):
        yield ring_state(size)
        yield tuple(reversed(range(size)))
        yield line_state(size)
        yield tuple(range(size))
        yield (0,) * size
        yield lasso_state(size, 3)
        yield lasso_state(size, size - 2)
        for unused in range(4):
            yield tuple(chosen.randrange(size) for x in range(size))
        yield turned_ring(size, chosen)


def turned_ring(size, chosen):
    """A ring of everybody in an order that is not that of the numbers."""
    order = list(range(size))
    chosen.shuffle(order)
    after = dict(zip(order, order[1:] + order[:1]))
    return tuple(after[x] for x in range(size))


def all_samples():
    yield from small_states()
    yield from large_states()


def words_for(state, seed=7):
    """Words for a state: empty, short and long, with people called again and again."""
    size = len(state)
    chosen = random.Random(seed)
    yield []
    yield list(range(size))
    yield [size - 1] * (size + 1)
    for length in (1, 2, 5, 60):
        yield [chosen.randrange(size) for at in range(length)]


def few_called(people, chosen, most=12):
    """A word of up to most calls of a few of the people."""
    some = [chosen.choice(people) for unused in range(chosen.randint(1, 4))]
    return [chosen.choice(some) for at in range(chosen.randint(0, most))]


def spoked_state(lengths, spokes, size):
    """Rings of these lengths, each with so many people who point at its least member, and roots up to the size."""
    state = []
    for length in lengths:
        first = len(state)
        state += [first + (at + 1) % length for at in range(length)] + [first] * spokes
    return tuple(state + list(range(len(state), size)))


def strangers(state):
    """Integers that are not among the people of a state."""
    size = len(state)
    return [-1, -size, -size - 1, size, size + 1, -10 ** 12, 10 ** 12, 10 ** 5000]


def small_pairs(most=4):
    """All pairs of states of one to most people, both of as many."""
    for size in range(1, most + 1):
        states = list(itertools.product(range(size), repeat=size))
        yield from itertools.product(states, states)


def some_pairs(size, many, seed=11):
    """Pairs of states of so many people: any two, and two that share most of their pointers."""
    chosen = random.Random(seed)
    for unused in range(many):
        one = tuple(chosen.randrange(size) for x in range(size))
        yield one, tuple(chosen.randrange(size) for x in range(size))
        yield one, tuple(chosen.randrange(size) if chosen.random() < 0.2 else target for target in one)


def later_states(state, seed=5):
    """Futures of a state, near and far, made by calls."""
    chosen = random.Random(seed)
    for many in (0, 1, 3, 10, 40, 200):
        after = list(state)
        for unused in range(many):
            person = chosen.randrange(len(state))
            after[person] = after[after[person]]
        yield tuple(after)


def far_numbers(many):
    """Integers that number none of so many things: just beyond both ends, and far away."""
    return [-1, -2, -many, -many - 1, many, many + 1, 2 * many, -10 ** 5000, 10 ** 5000]


def some_numbers(many, seed=8):
    """Numbers of so many things: at both ends, and others anywhere between."""
    chosen = random.Random(seed)
    ends = [number for number in (0, 1, 2, many // 2, many - 2, many - 1) if 0 <= number < many]
    return sorted(set(ends + [chosen.randrange(many) for unused in range(25)]))


def small_forest(size, chosen):
    """A state in which every ring is a root."""
    return tuple(x if x < 3 else chosen.randrange(x) for x in range(size))


# What a parameter called value may be, and what is nothing that the document describes.
ODD_VALUES = (
    None, True, False, 0, 1, -1, 10 ** 5000, "", "0", "way", "rings", "order", "way 1", (), [], ((),), [[]], (None,),
    [None], ["0"], [True], [False], [0, True], [(0,)], [[0]], [0, [1]], [0, None], [0, "1"], (0,), (0, 1), (1, 0, 0),
    (((((((("way", 0),),),),),),),), [[[[[[[[0]]]]]]]], ("way", ("way", 0)), (["way", 0],), [("way", 0)], "x" * 100000,
    ["x"] * 100000, ("way",) * 100000, (None,) * 100000,
)
