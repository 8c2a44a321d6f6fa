"""How much greater than its cost the measure of a row can be."""

from slipstold.certificates import first_fault
from slipstold.edits import bad_edit_place, check_script
from slipstold.errors import NoNumber, TooMany
from slipstold.graphs import Graph, MEASURES, best_road, check_measure, climb, edits_of, loop_scripts
from slipstold.integers import is_integer, is_integer_between
from slipstold.quotients import ONE
from slipstold.web import begin, ends, follow

MOST_TURNS = 8
LONGEST_RESULT = 5000


def excess(reader, measure):
    """The greatest of measure minus cost over all rows, or None if there is no greatest."""
    graph, values, turn = climbed(reader, measure)
    if values is None:
        return None
    return values[graph.entry]


def script_of(reader, measure):
    """A road whose measure minus its cost is the excess, or None if the excess is None."""
    graph, values, turn = climbed(reader, measure)
    if values is None:
        return None
    return edits_of(best_road(graph, ONE, values))


def paper(reader, measure):
    """A dict from all useful standings to the greatest of measure minus cost from there on, or None."""
    graph, values, turn = climbed(reader, measure)
    if values is None:
        return None
    return {standing: values[number] for number, standing in enumerate(graph.standings)}


def climbed(reader, measure):
    """The graph of the reader, and what climb returns where each edit counts as much as the measure."""
    check_measure(measure)
    graph = Graph(reader, measure)
    values, turn = climb(graph, ONE)
    return graph, values, turn


def paper_fault(reader, measure, paper, most):
    """The first fault of a dict that is said to show that the excess is at most this, or None."""
    check_measure(measure)
    if not is_integer(most):
        raise NoNumber()
    graph = Graph(reader, measure)
    numbers = [None for standing in graph.standings]
    if isinstance(paper, dict):
        numbers = [integer_as_fraction(paper.get(standing)) for standing in graph.standings]
    return first_fault(graph, ONE, numbers, (most, 1))


def integer_as_fraction(value):
    """The value as a fraction, or None if it is no integer."""
    if not is_integer(value):
        return None
    return value, 1


def ring(reader, measure):
    """Scripts to a standing, back to it with a gain, and from it to an end; None if the excess is not None."""
    graph, values, turn = climbed(reader, measure)
    if turn is None:
        return None
    return loop_scripts(graph, turn)


def ring_fault(reader, measure, ahead, turn, behind):
    """The first thing that is wrong with three scripts that are said to be a ring, or None."""
    check_measure(measure)
    reached = followed(reader, begin(reader), ahead)
    if reached is None:
        return "ahead"
    turned_to = followed(reader, reached[0], turn)
    if turned_to is None or len(turn) == 0 or turned_to[0] != reached[0]:
        return "turn"
    last = followed(reader, reached[0], behind)
    if last is None or ends(reader, last[0]) is None:
        return "behind"
    if turned_to[1 + MEASURES.index(measure)] - turned_to[3] < 1:
        return "gain"
    return None


def followed(reader, standing, script):
    """What follow returns, or None if the value is no script."""
    if bad_edit_place(script) is not None:
        return None
    return follow(reader, standing, script)


def turned(ahead, turn, behind, n):
    """The edits of a script ahead, so many times those of a turn, and those of a script behind."""
    check_script(ahead)
    check_script(turn)
    check_script(behind)
    if not is_integer_between(n, 0, MOST_TURNS):
        raise NoNumber()
    script = list(ahead) + n * list(turn) + list(behind)
    if len(script) > LONGEST_RESULT:
        raise TooMany(LONGEST_RESULT)
    return script
