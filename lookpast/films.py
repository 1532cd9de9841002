"""Films: lists of STATEs, each of which shall lead to the next one."""

from lookpast.calls import called
from lookpast.reach import check_size, leads, obstacle


def check_film(film):
    """Raise OtherSize for the first STATE that has not as many people as the first one."""
    for state in film:
        check_size(film[0], state)


def film_gap(film):
    """Return the index of the first STATE that does not lead to the next one, or None. Raises OtherSize."""
    check_film(film)
    for at in range(len(film) - 1):
        if not leads(film[at], film[at + 1]):
            return at
    return None


def film_bar(film):
    """Return the OBSTACLE at the gap of a film, or None if it has no gap. Raises OtherSize."""
    gap = film_gap(film)
    return None if gap is None else obstacle(film[gap], film[gap + 1])


def callers(state, later):
    """Return the ascending list of the people whose call turns the STATE into later. Raises OtherSize."""
    check_size(state, later)
    return [person for person in range(len(state)) if called(state, person) == tuple(later)]
