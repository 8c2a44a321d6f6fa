"""Far rows, which may be too long to be written: what a reader does in them, and what they cost."""

from slipstold.courses import MOST_TIMES, course_of, repeated
from slipstold.edits import all_costs, least_at, list_arrows
from slipstold.errors import NoFar, NoNumber
from slipstold.integers import is_integer, is_integer_between
from slipstold.machines import bad_place, trimmed
from slipstold.readings import advance, closing, first

LONGEST_PART = 200


class Fares:
    """The least costs of the scripts of a row between any two states; it never changes.

    costs is a dict of dicts: costs[s][t] is the least cost from s to t; t is left out if no script leads there.
    """

    def __init__(self, costs):
        self.costs = costs

    def then(self, other):
        """The fares of the row followed by the row of other fares."""
        return Fares({state: joined_costs(costs, other.costs) for state, costs in self.costs.items()})


def joined_costs(costs, later):
    """The least costs over two rows: of the first one from a state, and of the later one between any two states."""
    least = {}
    for middle, paid in costs.items():
        for state, more in later[middle].items():
            least[state] = min(paid + more, least.get(state, paid + more))
    return least


def told_far(reader, far):
    """The number of errors told in the far row, the end's included."""
    check_far(reader.machine, far)
    configuration, tells, works = effect_of(reader, far)
    return tells + closing(reader, configuration)[0]


def mends_far(reader, far):
    """The number of mends in the far row, the end's included."""
    check_far(reader.machine, far)
    configuration, tells, works = effect_of(reader, far)
    return works + closing(reader, configuration)[1]


def arrive_far(reader, far):
    """The configuration behind the last token of the far row."""
    check_far(reader.machine, far)
    return effect_of(reader, far)[0]


def fewest_far(machine, far):
    """The cost of the far row."""
    check_far(machine, far)
    right = trimmed(machine)
    arrows = list_arrows(right)
    ahead, middle, behind = [fares_of(arrows, right.states(), row) for row in (far[0], far[1], far[3])]
    whole = ahead.then(repeated(middle, fares_of(arrows, right.states(), ()), far[2])).then(behind)
    return least_at(right.finals(), whole.costs[right.start])


def told_place(reader, far, k):
    """The place of the told error number k, counted from 0, or None if not so many are told."""
    check_far(reader.machine, far)
    if not is_integer(k) or k < 0:
        raise NoNumber()
    return place_of(reader, far, k + 1)


def last_told(reader, far):
    """The place of the last told error, or None."""
    many = told_far(reader, far)
    if many == 0:
        return None
    return place_of(reader, far, many)


def check_far(machine, far):
    """Raise NoFar if the value is no far row of the machine."""
    part = wrong_part_of_far(machine.tokens(), far)
    if part is not None:
        raise NoFar(part)


def wrong_part_of_far(tokens, far):
    """The first part that makes no far row of the tokens, or None."""
    if not isinstance(far, (list, tuple)) or len(far) != 4:
        return "far"
    if not is_part(tokens, far[0]):
        return "u"
    if not is_part(tokens, far[1]):
        return "v"
    if not is_integer_between(far[2], 0, MOST_TIMES):
        return "n"
    if not is_part(tokens, far[3]):
        return "x"
    return None


def is_part(tokens, value):
    """Whether the value is a row of the tokens that is short enough for a part of a far row."""
    return bad_place(tokens, value) is None and len(value) <= LONGEST_PART


def effect_of(reader, far):
    """The configuration behind the far row, the errors told and the mends, without the end."""
    ahead, middle, behind = [course_of(reader, row) for row in (far[0], far[1], far[3])]
    whole = ahead.then(repeated(middle, course_of(reader, ()), far[2])).then(behind)
    return whole.effects[first(reader)]


def fares_of(arrows, states, row):
    """The fares of a row, with the moves and the states of a machine in which all states are hopeful."""
    return Fares({state: all_costs(arrows, state, row)[-1] for state in states})


def place_of(reader, far, left):
    """The place of the last of so many told errors, or None if not so many are told."""
    u, v, n, x = far
    spot = seek(reader, (first(reader), 0, left), u)
    spot, rest = seek_times(reader, spot, v, n)
    # If copies are left, the error is told in the next one.
    if rest > 0:
        spot = seek(reader, spot, v)
    configuration, place, left = seek(reader, spot, x)
    if left > closing(reader, configuration)[0]:
        return None
    return place


def seek(reader, spot, row):
    """The spot behind the row.

    A spot is a configuration, a place and the number of errors that are still to be told. The place goes on with the
    tokens, but stays at the error that is sought: behind it no more are left.
    """
    configuration, place, left = spot
    for token in row:
        configuration, tells, works = advance(reader, configuration, token)
        left = left - tells
        if left > 0:
            place = place + 1
    return configuration, place, left


def seek_times(reader, spot, row, n):
    """The spot behind as many copies of the row as can be passed without the error that is sought, and the others."""
    configuration, place, left = spot
    for size, course in powers(course_of(reader, row), n):
        ahead, tells, works = course.effects[configuration]
        if size <= n and tells < left:
            configuration, place, left = ahead, place + size * len(row), left - tells
            n = n - size
    return (configuration, place, left), n


def powers(course, n):
    """The courses of 1, 2, 4 and more times a row, up to n times, the longest first, with these numbers."""
    found = []
    size = 1
    while size <= n:
        found.append((size, course))
        course = course.then(course)
        size = size * 2
    return found[::-1]
