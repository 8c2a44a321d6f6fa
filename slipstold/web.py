"""The graph of standings: how far a script has come in its source and in its target."""

from slipstold.edits import check_script, writing_cost, writing_edit
from slipstold.errors import NoStanding, TooMany
from slipstold.machines import hopeful, trimmed
from slipstold.readings import advance, closing, first, is_configuration
from slipstold.searches import explored

MOST_STANDINGS = 200


def begin(reader):
    """The standing in which every road begins."""
    return first(reader), reader.machine.start


def is_standing(reader, value):
    """Whether the value is a standing of the reader."""
    if not isinstance(value, tuple) or len(value) != 2 or not is_configuration(reader, value[0]):
        return False
    return isinstance(value[1], str) and value[1] in hopeful(reader.machine)


def check_standing(reader, value):
    """Raise NoStanding if the value is no standing of the reader."""
    if not is_standing(reader, value):
        raise NoStanding()


def steps(reader, standing):
    """The sorted list of the steps, as tuples of an edit, the next standing, and what is told, mended and paid."""
    check_standing(reader, standing)
    return steps_from(reader, trimmed(reader.machine), standing)


def steps_from(reader, right, standing):
    """What steps returns, for a good standing and the trimmed machine of the reader."""
    configuration, state = standing
    tokens = right.tokens()
    writings = [(written, right[state, written]) for written in tokens if right[state, written] is not None]
    found = [(("put", written), (configuration, goal), 0, 0, 1) for written, goal in writings]
    for token in tokens:
        ahead, tells, works = advance(reader, configuration, token)
        found.append((("drop", token), (ahead, state), tells, works, 1))
        for written, goal in writings:
            edit = writing_edit(token, written)
            found.append((edit, (ahead, goal), tells, works, writing_cost(token, written)))
    return sorted(found)


def ends(reader, standing):
    """What is told and mended at the end, or None if no road ends at the standing."""
    check_standing(reader, standing)
    return end_at(reader, standing)


def end_at(reader, standing):
    """What ends returns, for a good standing."""
    configuration, state = standing
    if state not in reader.machine.finals():
        return None
    return closing(reader, configuration)


def follow(reader, standing, script):
    """The standing to which the script leads, with what is told, mended and paid; None if it cannot be followed."""
    check_standing(reader, standing)
    check_script(script)
    right = trimmed(reader.machine)
    known = {}
    sums = (0, 0, 0)
    for edit in script:
        if standing not in known:
            known[standing] = {taken[0]: taken for taken in steps_from(reader, right, standing)}
        step = known[standing].get(edit)
        if step is None:
            return None
        standing = step[1]
        sums = (sums[0] + step[2], sums[1] + step[3], sums[2] + step[4])
    return standing, sums[0], sums[1], sums[2]


def useful(reader):
    """The sorted list of all standings to which steps lead from the first one."""
    return list(all_steps(reader))


def all_steps(reader):
    """A dict from all useful standings, in sorted order, to what steps returns for them."""
    right = trimmed(reader.machine)

    def leads(standing):
        return steps_from(reader, right, standing)

    found = explored(begin(reader), leads)
    if len(found) > MOST_STANDINGS:
        raise TooMany(MOST_STANDINGS)
    return {standing: found[standing] for standing in sorted(found)}
