"""What a reader does in a row: its configurations, the errors it tells, its mends and its trail."""

from slipstold.errors import NoConfiguration, NoRow
from slipstold.integers import is_integer_between
from slipstold.machines import check_row, is_token
from slipstold.readers import looks_again, state_behind


def first(reader):
    """The configuration in which the reader begins."""
    return reader.machine.start, (), 0


def configurations(reader):
    """The sorted list of all configurations."""
    quiets = list(range(reader.hold + 1))
    return sorted(set([(state, waiting, quiet) for state, waiting in postures(reader) for quiet in quiets]))


def postures(reader):
    """A list of all pairs of a state and what is waited for there; some may come twice."""
    actions = list(reader.table().values())
    passes = [(action[2], action[1]) for action in actions if action[0] == "pass"]
    return [(state, ()) for state in reader.machine.states()] + passes


def is_configuration(reader, value):
    """Whether the value is a configuration of the reader."""
    if not isinstance(value, tuple) or len(value) != 3:
        return False
    state, waiting, quiet = value
    if not isinstance(state, str) or not is_integer_between(quiet, 0, reader.hold):
        return False
    if not isinstance(waiting, tuple) or not all([isinstance(token, str) for token in waiting]):
        return False
    return (state, waiting) in postures(reader)


def check_configuration(reader, value):
    """Raise NoConfiguration if the value is no configuration of the reader."""
    if not is_configuration(reader, value):
        raise NoConfiguration()


def after(reader, configuration, token):
    """The configuration behind the token, whether an error is told at it (1 or 0), and the mends at it."""
    check_configuration(reader, configuration)
    if not is_token(reader.machine, token):
        raise NoRow(0)
    return advance(reader, configuration, token)


def at_end(reader, configuration):
    """Whether an error is told at the end of a row (1 or 0), and the mends at it."""
    check_configuration(reader, configuration)
    return closing(reader, configuration)


def advance(reader, configuration, token):
    """What after returns, for good arguments."""
    state, waiting, quiet = configuration
    events, state, waiting = happenings(reader, state, waiting, token)
    words = [event[1] for event in events]
    mending = len([word for word in words if word not in ("move", "error", "found")])
    if quiet == 0 and "error" in words:
        return (state, waiting, reader.hold), 1, mending
    return (state, waiting, max(0, quiet - 1)), 0, mending


def closing(reader, configuration):
    """What at_end returns, for a good configuration."""
    if configuration[0] in reader.machine.finals():
        return 0, 0
    if configuration[2] == 0:
        return 1, 1
    return 0, 1


def happenings(reader, state, waiting, token):
    """What happens at a token, with the state behind it and what is waited for there.

    What happens is a list of tuples of a state, the word of the trail, and the edit that is done or None.
    """
    if waiting != () and token not in waiting:
        return [(state, "over", ("drop", token))], state, waiting
    events = []
    if waiting != ():
        events.append((state, "found", None))
    looking = True
    while looking:
        deed = reader[state, token]
        if deed[0] != "move":
            events.append((state, "error", None))
        state = state_behind(reader.machine, state, deed)
        events.append((state, deed[0], edit_of(token, deed)))
        looking = looks_again(token, deed)
    # Only a pass that does not look again makes the reader wait, so it can only be the last deed.
    if deed[0] == "pass":
        return events, state, deed[1]
    return events, state, ()


def edit_of(token, deed):
    """The edit that the deed does at the token, or None."""
    if deed[0] == "move":
        return "keep", token
    if deed[0] == "put":
        return "put", deed[1]
    if deed[0] == "take":
        return "turn", token, deed[1]
    if looks_again(token, deed):
        return None
    return "drop", token


def told(reader, row):
    """The sorted list of the places where an error is told."""
    check_row(reader.machine, row)
    return told_in(reader, row)


def told_in(reader, row):
    """What told returns, for a good row."""
    places, works, configuration = through(reader, row)
    if closing(reader, configuration)[0] == 1:
        places.append(len(row))
    return places


def mends(reader, row):
    """The number of all mends, the end's included."""
    check_row(reader.machine, row)
    return mends_in(reader, row)


def mends_in(reader, row):
    """What mends returns, for a good row."""
    places, works, configuration = through(reader, row)
    return works + closing(reader, configuration)[1]


def arrive(reader, row):
    """The configuration behind the last token."""
    check_row(reader.machine, row)
    return through(reader, row)[2]


def through(reader, row):
    """The places told within a row, the mends within it, and the configuration behind it, all without the end."""
    places = []
    works = 0
    configuration = first(reader)
    for place, token in enumerate(row):
        configuration, tells, mending = advance(reader, configuration, token)
        if tells == 1:
            places.append(place)
        works = works + mending
    return places, works, configuration


def trail(reader, row):
    """The list of what happens, as tuples of an index, a state and a word."""
    check_row(reader.machine, row)
    events, state = all_happenings(reader, row)
    return [(index, here, word) for index, here, word, edit in events] + [(len(row), state, "end")]


def mended(reader, row):
    """The reader's own work as a script, and whether it is whole: then its target is right."""
    check_row(reader.machine, row)
    events, state = all_happenings(reader, row)
    script = [edit for index, here, word, edit in events if edit is not None]
    words = [word for index, here, word, edit in events]
    return script, "jump" not in words and "pass" not in words and state in reader.machine.finals()


def all_happenings(reader, row):
    """What happens in a row, as a list of tuples of an index, a state, a word and an edit or None; the last state."""
    found = []
    state, waiting, quiet = first(reader)
    for index, token in enumerate(row):
        events, state, waiting = happenings(reader, state, waiting, token)
        found.extend([(index, here, word, edit) for here, word, edit in events])
    return found, state
