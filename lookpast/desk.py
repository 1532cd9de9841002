"""A desk: lines of text that are answered, one after another, by one Circle."""

from lookpast.circle import Circle
from lookpast.errors import BadLine, BadText, IsRoot, MissingRoot, NoPerson, NoRoot, OtherSize, Unreachable
from lookpast.futures import futures_many, number_of
from lookpast.reach import obstacle
from lookpast.repeats import settles
from lookpast.rests import fewest_to_rest
from lookpast.states import rings, way
from lookpast.texts import number_in, spaced, state_in, state_text, wish_in, word_in
from lookpast.wishes import wish_obstacle

MOST_TIMES = 1000000000000

# The lines that are done when nothing stands behind their names.
ALONE = ("come", "undo", "state", "rings", "many")
# The lines that are deeds of a Circle, of which the answer is the result.
DEEDS = ("call", "run", "repeat", "become", "come", "leave")


def repeat_in(text):
    """Return the arguments of a repeat from the text behind its name. Raises BadText."""
    times, blank, word = text.partition(" ")
    many = number_in(times)
    if many > MOST_TIMES:
        raise BadText(0)
    return [word_in(word), many]


def arguments_in(name, text):
    """Return the list of the arguments that stand behind the name of a line. Raises BadText."""
    if name in ("call", "come", "leave", "way", "rest"):
        return [number_in(text)]
    if name in ("run", "settles"):
        return [word_in(text)]
    if name in ("become", "leads", "number"):
        return [state_in(text)]
    if name == "wish":
        return [wish_in(text)]
    if name == "repeat":
        return repeat_in(text)
    raise BadText(0)


def request_in(line):
    """Return the pair of the name of a line and the list of its arguments. Raises BadText."""
    if line in ALONE:
        return (line, [])
    # Without a blank the text behind the name is empty, and that is the text of no argument.
    name, blank, text = line.partition(" ")
    return (name, arguments_in(name, text))


def yes_or_items(found):
    """Return the answer to a question that an OBSTACLE, or None, settles."""
    return "yes" if found is None else spaced(found)


def way_answer(state, person):
    """Answer the line way P."""
    return spaced(way(state, person))


def rings_answer(state):
    """Answer the line rings."""
    return " / ".join([spaced(ring) for ring in rings(state)])


def leads_answer(state, goal):
    """Answer the line leads STATE."""
    return yes_or_items(obstacle(state, goal))


def many_answer(state):
    """Answer the line many."""
    return str(futures_many(state))


def number_answer(state, goal):
    """Answer the line number STATE."""
    return str(number_of(state, goal))


def rest_answer(state, person):
    """Answer the line rest P."""
    return str(fewest_to_rest(state, [person]))


def settles_answer(state, word):
    """Answer the line settles WORD."""
    return spaced(settles(state, word))


def wish_answer(state, wish):
    """Answer the line wish WISH."""
    return yes_or_items(wish_obstacle(state, wish))


def state_answer(state):
    """Answer the line state."""
    return state_text(state)


QUERIES = {
    "state": state_answer,
    "way": way_answer,
    "rings": rings_answer,
    "leads": leads_answer,
    "many": many_answer,
    "number": number_answer,
    "rest": rest_answer,
    "settles": settles_answer,
    "wish": wish_answer,
}


def done(circle, name, arguments):
    """Return the answer to a request. Raises the errors of what is asked."""
    if name in DEEDS:
        return str(circle.act(name, *arguments))
    if name == "undo":
        return "done" if circle.undo() else "nothing"
    query = QUERIES[name]
    state = circle.state()
    return query(state, *arguments)


def answer(circle, name, arguments):
    """Return the answer to a request, also if it is refused."""
    try:
        return done(circle, name, arguments)
    except NoPerson:
        return "refused NoPerson"
    except OtherSize:
        return "refused OtherSize"
    except Unreachable:
        return "refused Unreachable"
    except IsRoot:
        return "refused IsRoot"
    except NoRoot:
        return "refused NoRoot"
    except MissingRoot:
        return "refused MissingRoot"


def first_state(lines):
    """Return the STATE of the first line. Raises BadLine."""
    try:
        return state_in(lines[0])
    except BadText:
        raise BadLine(0) from None


def request_at(lines, at):
    """Return the request of the line with this index. Raises BadLine."""
    try:
        return request_in(lines[at])
    except BadText:
        raise BadLine(at) from None


def answers(text):
    """Return the list of the answers to all lines behind the first one, which is the text of a STATE.

    Raises BadLine before anything is answered.
    """
    lines = text.split("\n")
    circle = Circle(first_state(lines))
    requests = [request_at(lines, at) for at in range(1, len(lines))]
    found = []
    for name, arguments in requests:
        found.append(answer(circle, name, arguments))
    return found
