"""How great the measure of a row can be if the row is a few edits from right."""

from slipstold.errors import NoNumber
from slipstold.graphs import Graph, best_road, check_measure, climb, steepest, sums
from slipstold.integers import is_integer_between
from slipstold.quotients import lowest
from slipstold.searches import shortest_way

MOST_EDITS = 8
# The tops below are None where no road ends, pairs of 0 and a measure where there is a greatest one, else this.
ENDLESS = (1, 0)


def bursts(reader, measure, n):
    """The list of the greatest measures of rows with a cost of at most 0 to n; None where there is no greatest."""
    graph = checked_graph(reader, measure, n)
    return [measure_of(tops[graph.entry]) for tops in all_tops(graph, n)]


def burst_script(reader, measure, n):
    """A road with a cost of at most n and the greatest measure, or None if there is no greatest."""
    graph = checked_graph(reader, measure, n)
    tops = all_tops(graph, n)
    if tops[n][graph.entry] == ENDLESS:
        return None

    def leads(node):
        number, spare = node
        return [(arc[0], (arc[1], spare - arc[3])) for arc in graph.arcs[number]
                if arc[3] <= spare and tops[spare][number] == raised(tops[spare - arc[3]][arc[1]], arc[2])]

    def is_best_end(node):
        number, spare = node
        return tops[spare][number] == end_top(graph, number)

    # No node comes twice, and there are at most 200 numbers and 9 numbers of edits that may still come.
    return shortest_way((graph.entry, n), leads, is_best_end)


def checked_graph(reader, measure, n):
    """The graph of a reader, if the arguments are good."""
    check_measure(measure)
    if not is_integer_between(n, 0, MOST_EDITS):
        raise NoNumber()
    return Graph(reader, measure)


def measure_of(top):
    """The measure that a top stands for, or None if there is no greatest."""
    if top == ENDLESS:
        return None
    return top[1]


def raised(top, worth):
    """The top with a measure added to it."""
    if top is None or top == ENDLESS:
        return top
    return 0, top[1] + worth


def end_top(graph, number):
    """The top of the end alone."""
    if graph.closings[number] is None:
        return None
    return 0, graph.closings[number]


def all_tops(graph, n):
    """A list of lists: item k has for each number of the graph the top of what can come from there for k edits."""
    keeps = [[arc for arc in arcs if arc[3] == 0] for arcs in graph.arcs]
    tops = [with_keeps(keeps, [end_top(graph, number) for number in range(len(keeps))])]
    while len(tops) <= n:
        tops.append(with_keeps(keeps, [paid_top(graph, number, tops[-1]) for number in range(len(keeps))]))
    return tops


def paid_top(graph, number, below):
    """The top of the end and of what begins with a step that costs one edit; below has the tops for one edit less."""
    paid = [raised(below[arc[1]], arc[2]) for arc in graph.arcs[number] if arc[3] == 1]
    return greatest([end_top(graph, number)] + paid)


def greatest(tops):
    """The greatest of tops."""
    return max([top for top in tops if top is not None], default=None)


def with_keeps(keeps, tops):
    """The tops when keeps may come first."""
    tops = list(tops)
    rounds = 0
    changed = True
    while changed:
        changed = False
        rounds = rounds + 1
        for number, arcs in enumerate(keeps):
            best = greatest([tops[number]] + [raised(tops[arc[1]], arc[2]) for arc in arcs])
            if best != tops[number]:
                # A way that comes to no number twice has fewer arcs than there are numbers.
                tops[number] = ENDLESS if rounds > len(keeps) else best
                changed = True
    return tops


def per_edit(reader, measure):
    """The least fraction p for which p times the cost bounds the measure of all rows, or None."""
    check_measure(measure)
    graph = Graph(reader, measure)
    p = steepest(graph)[0]
    while p is not None:
        values, turn = climb(graph, p)
        if values[graph.entry] == 0:
            return p
        # A row without cost has the measure 0, so a road with a value above 0 costs something. Its measure, the end's
        # included, is told by its value.
        paid = sums(best_road(graph, p, values))[1]
        p = lowest(values[graph.entry] + p[0] * paid, p[1] * paid)
    return None
