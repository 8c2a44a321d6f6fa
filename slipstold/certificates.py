"""Verdicts on dicts that give each useful standing a number, for "never more"."""

from slipstold.graphs import gain
from slipstold.quotients import added, is_less


def first_fault(graph, p, numbers, most):
    """The first fault of a dict that gives prices to standings, or None.

    numbers has a fraction, or None where the standing lacks, for each number of the graph. The price of the
    beginning may be the fraction most at most; p times the cost counts against the measure.
    """
    entry = numbers[graph.entry]
    if entry is None or is_less(most, entry):
        return ("begin",)
    for number, standing in enumerate(graph.standings):
        if numbers[number] is None:
            return "lacks", standing
    for number, standing in enumerate(graph.standings):
        fault = fault_at(graph, p, numbers, number)
        if fault is not None:
            return (fault[0], standing) + fault[1:]
    return None


def fault_at(graph, p, numbers, number):
    """The first fault of the price of one standing, without the standing itself, or None."""
    price = numbers[number]
    for edit, ahead, worth, paid in graph.arcs[number]:
        if is_less(price, added((gain(p, worth, paid), p[1]), numbers[ahead])):
            return "step", edit
    end = graph.closings[number]
    if end is not None and is_less(price, (end, 1)):
        return ("end",)
    return None
