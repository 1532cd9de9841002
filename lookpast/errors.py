"""The errors of the package, one class for each kind of failure.

The messages never show the values: an integer may have more digits than Python agrees to write.
"""


def kept(value):
    """Return a value that later changes to a passed list cannot reach."""
    return tuple(value) if isinstance(value, list) else value


class NoPerson(LookupError):
    """An integer is not one of the people."""

    def __init__(self, person):
        LookupError.__init__(self, "not one of the people")
        self.person = person


class NoNumber(LookupError):
    """Nothing has this number."""

    def __init__(self, number):
        LookupError.__init__(self, "nothing has this number")
        self.number = number


class NoDeed(LookupError):
    """There are not so many deeds."""

    def __init__(self, many):
        LookupError.__init__(self, "there are not so many deeds")
        self.many = many


class OtherSize(ValueError):
    """Something is for another number of people."""

    def __init__(self, size):
        ValueError.__init__(self, "another number of people")
        self.size = size


class NoRoot(ValueError):
    """A person cannot be a root beside the others that are listed."""

    def __init__(self, person):
        ValueError.__init__(self, "cannot be a root here")
        self.person = person


class MissingRoot(ValueError):
    """A ring has no root in the list."""

    def __init__(self, person):
        ValueError.__init__(self, "a ring has no root in the list")
        self.person = person


class NotKin(ValueError):
    """Two states do not lead to each other."""

    def __init__(self):
        ValueError.__init__(self, "the states are not kin")


class NotPast(ValueError):
    """A state is not a past of the wanted kind."""

    def __init__(self):
        ValueError.__init__(self, "not such a past")


class BadDeed(ValueError):
    """An item of a list of deeds is not a deed."""

    def __init__(self, at):
        ValueError.__init__(self, "not a deed")
        self.at = at


class BadText(ValueError):
    """A word of a text is wrong."""

    def __init__(self, at):
        ValueError.__init__(self, "a word of the text is wrong")
        self.at = at


class BadLine(ValueError):
    """A line has none of the known forms."""

    def __init__(self, at):
        ValueError.__init__(self, "a line has no known form")
        self.at = at


class Unreachable(RuntimeError):
    """A state does not lead to the goal."""

    def __init__(self, obstacle):
        RuntimeError.__init__(self, "the state does not lead to the goal")
        self.obstacle = kept(obstacle)


class NoCommon(RuntimeError):
    """Two states have no common future or past."""

    def __init__(self, bar):
        RuntimeError.__init__(self, "the states have nothing in common")
        self.bar = kept(bar)


class Denied(RuntimeError):
    """No future meets the wish."""

    def __init__(self, obstacle):
        RuntimeError.__init__(self, "no future meets the wish")
        self.obstacle = kept(obstacle)


class IsRoot(RuntimeError):
    """A root cannot be bypassed."""

    def __init__(self, person):
        RuntimeError.__init__(self, "this person is a root")
        self.person = person


class TooMany(OverflowError):
    """There are too many futures for a search."""

    def __init__(self, many):
        OverflowError.__init__(self, "too many futures")
        self.many = many
