"""What the numbered futures, kin STATEs and pasts share: products, and sequences by their numbers.

A sequence has one choice for each person. What may stand behind a begun sequence is told by a function
shares(state, begun): the ascending list of the pairs (choice, share). Of all sequences that begin so, those with
a choice next are as many as its share says: a share of 2 stands for twice as many as a share of 1.
"""

from lookpast.errors import NoNumber


def product(factors):
    """Return the product of integers, 1 if there are none."""
    result = 1
    for factor in factors:
        result *= factor
    return result


def factorial(number):
    """Return the factorial of an integer from 0 on."""
    return product(list(range(1, number + 1)))


def groups_of(pairs, many):
    """Return the triple (choice, first number, how many) for each choice, if all have so many sequences."""
    whole = sum([share for choice, share in pairs])
    groups = []
    first = 0
    for choice, share in pairs:
        size = many * share // whole
        groups.append((choice, first, size))
        first += size
    return groups


def sequence_at(shares, state, many, number):
    """Return the sequence with this number among so many, as they ascend. Raises NoNumber."""
    if not 0 <= number < many:
        raise NoNumber(number)
    begun = []
    rest = number
    for person in range(len(state)):
        groups = groups_of(shares(state, begun), many)
        choice, first, many = [group for group in groups if group[1] <= rest][-1]
        begun.append(choice)
        rest -= first
    return begun


def number_in(shares, state, many, sequence):
    """Return the number of a sequence among so many, as they ascend."""
    number = 0
    for at, wanted in enumerate(sequence):
        groups = groups_of(shares(state, sequence[:at]), many)
        choice, first, many = [group for group in groups if group[0] == wanted][0]
        number += first
    return number
