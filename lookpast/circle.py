"""A circle of people that is kept over many deeds.

A deed is a function of the STATE and of the arguments of the deed. It returns the pair of the STATE afterwards and
of the deed's result. It changes nothing itself, so a deed that raises an error is not in effect.
"""

from lookpast.calls import called, called_all, idle_calls
from lookpast.errors import BadDeed, IsRoot, NoDeed, NoPerson, OtherSize, Unreachable
from lookpast.people import bypassed, number_without
from lookpast.reach import check_future
from lookpast.repeats import repeated
from lookpast.states import check_person


def changes_many(before, after):
    """Return the number of people whose pointers are different in two STATEs."""
    return len([person for person, target in enumerate(before) if after[person] != target])


def call_deed(state, person):
    """Call a person; the result is the person at whom they point then. Raises NoPerson."""
    after = called(state, person)
    return (after, after[person])


def run_deed(state, word):
    """Call the people of a WORD; the result is the number of calls that were not idle. Raises NoPerson."""
    return (called_all(state, word), len(word) - len(idle_calls(state, word)))


def repeat_deed(state, word, many):
    """Do a WORD many times; the result is the number of pointers that are different then. Raises NoPerson."""
    after = repeated(state, word, many)
    return (after, changes_many(state, after))


def become_deed(state, goal):
    """Turn the STATE into goal; the result is the number of pointers that are different then.

    Raises OtherSize, then Unreachable.
    """
    check_future(state, goal)
    return (tuple(goal), changes_many(state, goal))


def come_deed(state, target=None):
    """Add a person who points at target, or at themselves; the result is their number. Raises NoPerson."""
    number = len(state)
    if target is None:
        return (state + (number,), number)
    check_person(state, target)
    return (state + (target,), number)


def leave_deed(state, person):
    """Let a person leave; the result is the later number of the one at whom they pointed.

    Raises NoPerson, then IsRoot.
    """
    return (bypassed(state, person), number_without(state[person], person))


DEEDS = {
    "call": call_deed,
    "run": run_deed,
    "repeat": repeat_deed,
    "become": become_deed,
    "come": come_deed,
    "leave": leave_deed,
}
# How many arguments each deed may have.
ARGUMENTS = {"call": (1,), "run": (1,), "repeat": (2,), "become": (1,), "come": (0, 1), "leave": (1,)}


def is_deed(item):
    """Tell whether an item, which may be any value, is a tuple of a deed's name and as many arguments as it has."""
    if not isinstance(item, tuple) or len(item) == 0:
        return False
    name = item[0]
    if not isinstance(name, str) or name not in ARGUMENTS:
        return False
    return len(item) - 1 in ARGUMENTS[name]


def check_deeds(deeds):
    """Raise BadDeed for the first item that is not a deed."""
    for at, item in enumerate(deeds):
        if not is_deed(item):
            raise BadDeed(at)


class Circle:
    """People who point at one another, what was done to them, and how to take it back."""

    def __init__(self, state):
        # The STATE before all deeds, and after each deed that is in effect.
        self.along = [tuple(state)]
        self.entries = []

    def act(self, name, *arguments):
        """Do the deed of this name and return its result."""
        deed = DEEDS[name]
        before = self.state()
        after, result = deed(before, *arguments)
        self.along.append(after)
        return result

    def call(self, person):
        """Call a person; return the person at whom they point then. Raises NoPerson."""
        return self.act("call", person)

    def run(self, word):
        """Call the people of a WORD as one deed; return how many calls were not idle. Raises NoPerson."""
        return self.act("run", word)

    def repeat(self, word, many):
        """Do a WORD many times as one deed; return how many pointers are different then. Raises NoPerson."""
        return self.act("repeat", word, many)

    def become(self, goal):
        """Turn into a future as one deed; return how many pointers are different. Raises OtherSize, Unreachable."""
        return self.act("become", goal)

    def come(self, target=None):
        """Add a person who points at target, or at themselves; return their number. Raises NoPerson."""
        return self.act("come", target)

    def leave(self, person):
        """Let a person leave; return the later number of whom they pointed at. Raises NoPerson, then IsRoot."""
        return self.act("leave", person)

    def undo(self):
        """Take back the last deed that is in effect; tell whether there was one."""
        if self.deeds() == 0:
            return False
        self.along.pop()
        return True

    def write(self, deeds, many):
        """Write into the log that the first many of these deeds were done."""
        names = [item[0] for item in deeds[:many]]
        self.entries += [("in", len(deeds)), *names, ("out", many)]

    def do(self, deeds, *, whole=True):
        """Do a list of deeds, each a tuple of its name and its arguments; return the list of their results.

        Raises BadDeed before anything is done. If a deed raises an error, so does this; the earlier deeds are in
        effect then only if whole is False.
        """
        check_deeds(deeds)
        before = len(self.along)
        results = []
        try:
            for item in deeds:
                results.append(self.act(*item))
        except (NoPerson, OtherSize, Unreachable, IsRoot):
            self.write(deeds, len(results))
            if whole:
                self.along = self.along[:before]
            raise
        self.write(deeds, len(results))
        return results

    def state(self):
        """Return the STATE."""
        return self.along[-1]

    def deeds(self):
        """Return the number of deeds that can be undone."""
        return len(self.along) - 1

    def as_of(self, many):
        """Return a new Circle in the state after the first many deeds, which can be undone. Raises NoDeed."""
        if not 0 <= many <= self.deeds():
            raise NoDeed(many)
        other = Circle(self.along[0])
        other.along = self.along[:many + 1]
        return other

    def twin(self):
        """Return a new Circle in the same state, with the same deeds to undo."""
        return self.as_of(self.deeds())

    def log(self):
        """Return the list of what each do has written."""
        return list(self.entries)

    def __len__(self):
        return len(self.along[-1])

    def __eq__(self, other):
        return isinstance(other, Circle) and self.along[-1] == other.along[-1]

    def __repr__(self):
        return f"Circle({len(self.along[-1])} people)"
