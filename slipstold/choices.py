"""Choices between holds and between actions, by how little a reader then tells too much."""

from slipstold.errors import BadRing, NoChoice
from slipstold.graphs import Graph, check_measure, climb, steepest
from slipstold.quotients import check_ratio, is_less, lowest
from slipstold.readers import LONGEST_HOLD, Reader, is_action, lacks_move

MOST_CHOICES = 5


def least_hold(reader, measure, p):
    """The least hold with which the ratio of the reader is at most p, or None."""
    check_measure(measure)
    check_ratio(p)
    for hold in range(LONGEST_HOLD + 1):
        values, turn = climb(Graph(reader.with_hold(hold), measure), p)
        if turn is None:
            return hold
    return None


def best(reader, measure, choices):
    """The sorted list of the ways to choose with the least ratio and, among these, the least constant."""
    check_measure(measure)
    check_choices(reader.machine, choices)
    graded = []
    for way in all_ways(len(choices)):
        chosen = chosen_reader(reader, choices, way)
        if chosen is not None:
            graded.append((way, grade_of(chosen, measure)))
    grades = [grade for way, grade in graded]
    return [way for way, grade in graded if not any([precedes(rival, grade) for rival in grades])]


def check_choices(machine, choices):
    """Raise NoChoice if the value is no list of choices for readers of the machine."""
    if not isinstance(choices, (list, tuple)) or len(choices) > MOST_CHOICES:
        raise NoChoice(-1)
    taken = {}
    for place, choice in enumerate(choices):
        if not is_choice(machine, choice) or choice[0] in taken:
            raise NoChoice(place)
        taken[choice[0]] = True


def is_choice(machine, value):
    """Whether the value is a choice of two actions at a pair without a move."""
    if not isinstance(value, (list, tuple)) or len(value) != 3 or not lacks_move(machine, value[0]):
        return False
    return all([is_action(machine, value[0][0], action) for action in value[1:]])


def all_ways(many):
    """The sorted list of all tuples of so many zeros and ones."""
    ways = [()]
    for place in range(many):
        ways = [way + (pick,) for way in ways for pick in (0, 1)]
    return ways


def chosen_reader(reader, choices, way):
    """The reader with the chosen actions, or None if some pair rings."""
    table = reader.table()
    for choice, pick in zip(choices, way):
        table[choice[0]] = choice[1 + pick]
    try:
        return Reader(reader.machine, table, hold=reader.hold)
    except BadRing:
        return None


def grade_of(reader, measure):
    """The ratio of the reader and the constant at it, or None if the ratio is None."""
    graph = Graph(reader, measure)
    p, turn = steepest(graph)
    if p is None:
        return None
    values, turn = climb(graph, p)
    return p, lowest(values[graph.entry], p[1])


def precedes(one, other):
    """Whether one grade is less than the other."""
    if one is None:
        return False
    if other is None:
        return True
    return is_less(one[0], other[0]) or (one[0] == other[0] and is_less(one[1], other[1]))
