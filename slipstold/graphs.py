"""The graph of standings in one measure: the greatest values of its paths, and its rings."""

from slipstold.errors import NoMeasure
from slipstold.quotients import ZERO, lowest
from slipstold.searches import shortest_way
from slipstold.web import all_steps, begin, end_at

# A measure is the number at its place here in what follow, steps and ends tell of told and mends.
MEASURES = ("told", "mends")


class Graph:
    """The useful standings of a reader as numbers from 0 on, with the steps between them.

    arcs[k] is the list of the steps from number k in order: tuples of the edit, the next number, the measure and the
    cost. closings[k] is the measure of the end there, or None.
    """

    def __init__(self, reader, measure):
        place = MEASURES.index(measure)
        found = all_steps(reader)
        self.standings = list(found)
        numbers = {standing: number for number, standing in enumerate(self.standings)}
        self.entry = numbers[begin(reader)]
        self.arcs = [[(step[0], numbers[step[1]], step[2 + place], step[4]) for step in steps]
                     for steps in found.values()]
        self.closings = [closing_measure(reader, standing, place) for standing in self.standings]


def check_measure(measure):
    """Raise NoMeasure if the value is no measure."""
    if not isinstance(measure, str) or measure not in MEASURES:
        raise NoMeasure()


def closing_measure(reader, standing, place):
    """The measure of the end at the standing, or None."""
    end = end_at(reader, standing)
    if end is None:
        return None
    return end[place]


def gain(p, worth, paid):
    """A measure minus p times a cost, multiplied by the lower number of p so that it is an integer."""
    return p[1] * worth - p[0] * paid


def climb(graph, p):
    """The list of the greatest values that paths from all numbers to an end can have, and None; or None and a ring.

    The value of a path is its gain. If no value is the greatest, the ring is one that gains: a list of arcs, each of
    which begins where the one before it ends, and the first one where the last one ends.
    """
    gains = [[(arc[1], gain(p, arc[2], arc[3])) for arc in arcs] for arcs in graph.arcs]
    values = [scaled(end, p[1]) for end in graph.closings]
    links = [None for end in values]
    while raise_values(gains, values, links):
        # A ring of links gains: its last link was made because the value behind it was above the one ahead.
        ring = ring_of_links(graph, links)
        if ring is not None:
            return None, ring
    return values, None


def scaled(value, factor):
    """The value times the factor, or None if it is None."""
    if value is None:
        return None
    return value * factor


def raise_values(gains, values, links):
    """Raises each value to what its arcs bring and links it to the best one; whether any was raised."""
    raised = False
    for number, arcs in enumerate(gains):
        for place, arc in enumerate(arcs):
            ahead = values[arc[0]]
            if ahead is not None and (values[number] is None or values[number] < ahead + arc[1]):
                values[number] = ahead + arc[1]
                links[number] = place
                raised = True
    return raised


def ring_of_links(graph, links):
    """The arcs of a ring to which links lead, or None."""
    owners = {}
    for first in range(len(links)):
        number = first
        while number not in owners and links[number] is not None:
            owners[number] = first
            number = graph.arcs[number][links[number]][1]
        if owners.get(number) == first:
            return linked_ring(graph, links, number)
    return None


def linked_ring(graph, links, first):
    """The arcs on the way that links lead from the number back to it."""
    ring = [graph.arcs[first][links[first]]]
    while ring[-1][1] != first:
        number = ring[-1][1]
        ring.append(graph.arcs[number][links[number]])
    return ring


def sums(arcs):
    """The measure and the cost of arcs."""
    return sum([arc[2] for arc in arcs]), sum([arc[3] for arc in arcs])


def steepest(graph):
    """The least ratio that bounds the measure, or None, and a ring that has it; there is no ring for the ratio 0."""
    p = ZERO
    ring = None
    values, better = climb(graph, p)
    while better is not None:
        ring = better
        worth, paid = sums(ring)
        if paid == 0:
            return None, ring
        # A ring that gains has a greater ratio than p, so each ring is met once at most.
        p = lowest(worth, paid)
        values, better = climb(graph, p)
    return p, ring


def best_road(graph, p, values):
    """The arcs of a road of the greatest value that comes to no number twice."""
    def leads(number):
        return [(arc, arc[1]) for arc in graph.arcs[number]
                if values[number] == gain(p, arc[2], arc[3]) + values[arc[1]]]

    def is_best_end(number):
        return values[number] == scaled(graph.closings[number], p[1])

    return shortest_way(graph.entry, leads, is_best_end)


def loop_scripts(graph, ring):
    """Three scripts: from the beginning to a ring, once around it, and from there to an end."""
    # The last arc of a ring leads to where its first one begins.
    first = ring[-1][1]

    def leads(number):
        return graph.arcs[number]

    def is_first(number):
        return number == first

    def is_end(number):
        return graph.closings[number] is not None

    ahead = shortest_way(graph.entry, leads, is_first)
    behind = shortest_way(first, leads, is_end)
    return ahead, edits_of(ring), behind


def edits_of(arcs):
    """The list of the edits of arcs."""
    return [arc[0] for arc in arcs]
