"""The least ratio by which the cost of a row bounds its measure, and the constant that is due beside it."""

from slipstold.certificates import first_fault
from slipstold.errors import NoNumber, TooLow
from slipstold.graphs import Graph, check_measure, climb, loop_scripts, steepest
from slipstold.quotients import check_ratio, is_fraction, lowest


def ratio(reader, measure):
    """The least fraction p for which p times the cost plus some number bounds the measure, or None."""
    graph, p, turn = steepest_of(reader, measure)
    return p


def steepest_of(reader, measure):
    """The graph of the reader, its ratio, and a ring that has the ratio or None."""
    check_measure(measure)
    graph = Graph(reader, measure)
    p, turn = steepest(graph)
    return graph, p, turn


def constant(reader, measure, p):
    """The least number that p times the cost lacks to bound the measure of all rows."""
    graph, values = bounded_values(reader, measure, p)
    return lowest(values[graph.entry], p[1])


def prices(reader, measure, p):
    """A dict from all useful standings to the greatest of measure minus p times cost from there on."""
    graph, values = bounded_values(reader, measure, p)
    return {standing: lowest(values[number], p[1]) for number, standing in enumerate(graph.standings)}


def bounded_values(reader, measure, p):
    """The graph, and the greatest values of all its numbers at p; raise what constant and prices raise."""
    check_measure(measure)
    check_ratio(p)
    graph = Graph(reader, measure)
    values, turn = climb(graph, p)
    # A ring gains just if its ratio is above p.
    if values is None:
        raise TooLow()
    return graph, values


def prices_fault(reader, measure, p, prices, c):
    """The first fault of a dict that is said to show that the constant at p is at most c, or None."""
    check_measure(measure)
    check_ratio(p)
    if not is_fraction(c):
        raise NoNumber()
    graph = Graph(reader, measure)
    numbers = [None for standing in graph.standings]
    if isinstance(prices, dict):
        numbers = [fraction_or_none(prices.get(standing)) for standing in graph.standings]
    return first_fault(graph, p, numbers, c)


def fraction_or_none(value):
    """The value if it is a fraction, otherwise None."""
    if not is_fraction(value):
        return None
    return value


def tight(reader, measure):
    """Scripts to a ring whose measure is the ratio times its cost, around it and on; None for a ratio None or 0."""
    graph, p, turn = steepest_of(reader, measure)
    if p is None or turn is None:
        return None
    return loop_scripts(graph, turn)


def slip(reader, measure):
    """Scripts to a ring that costs nothing and brings errors, around it and on; None if the ratio is not None."""
    graph, p, turn = steepest_of(reader, measure)
    if p is not None:
        return None
    return loop_scripts(graph, turn)
