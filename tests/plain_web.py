"""Points 21 to 26 once more, by a search over the steps that tests/plain.py finds.

All ways between two standings are joined one standing at a time, and the least fractions are sought among all that a
ring or a road without a standing that comes twice can have.
"""

from fractions import Fraction

from tests import plain

ENDLESS = float("inf")
NEVER = -ENDLESS


class Web:
    """The useful standings of a reader, their steps and their ends, in one measure."""

    def __init__(self, parts, table, hold, measure):
        self.place = ("told", "mends").index(measure)
        self.parts, self.measure = parts, measure
        self.standings = plain.plain_useful(parts, table, hold)
        self.steps = {here: plain.plain_steps(parts, table, hold, here) for here in self.standings}
        self.first = ((parts[1], (), 0), parts[1])

    def end(self, standing):
        """The measure of the end, or None."""
        if standing[1] not in self.parts[3]:
            return None
        return plain.plain_at_end(self.parts, standing[0])[self.place]

    def arcs(self):
        """All steps as tuples of a standing, an edit, the next standing, the measure and the cost."""
        return [(here, step[0], step[1], step[2 + self.place], step[4])
                for here in self.standings for step in self.steps[here]]

    def most(self):
        """A bound for the measure of a way that comes to no standing twice, and its end."""
        return len(self.standings) * max([arc[3] for arc in self.arcs()] + [1]) + 1


def closure(standings, arcs):
    """The greatest sums of arcs (from, to, worth) between all standings, or None if some ring gains."""
    best = {(one, other): NEVER for one in standings for other in standings}
    for one in standings:
        best[one, one] = 0
    for one, other, worth in arcs:
        best[one, other] = max(best[one, other], worth)
    for middle in standings:
        if best[middle, middle] > 0:
            return None
        for one in standings:
            left = best[one, middle]
            if left != NEVER:
                for other in standings:
                    if left + best[middle, other] > best[one, other]:
                        best[one, other] = left + best[middle, other]
    if any(best[one, one] > 0 for one in standings):
        return None
    return best


def values(web, p):
    """The greatest of measure minus p times cost from each standing on, or None if there is no greatest one."""
    p = Fraction(p)
    below = p.denominator
    best = closure(web.standings, [(one, other, below * worth - p.numerator * paid)
                                   for one, _, other, worth, paid in web.arcs()])
    if best is None:
        return None
    ends = {standing: web.end(standing) for standing in web.standings if web.end(standing) is not None}
    return {one: Fraction(max(best[one, other] + below * ends[other] for other in ends), below)
            for one in web.standings}


def least_of(candidates, is_enough):
    """The least of the candidates that is enough, or None; what is above one that is enough is enough, too."""
    candidates = sorted(candidates)
    if not is_enough(candidates[-1]):
        return None
    low, high = 0, len(candidates) - 1
    while low < high:
        middle = (low + high) // 2
        low, high = (low, middle) if is_enough(candidates[middle]) else (middle + 1, high)
    return candidates[low]


def all_fractions(web):
    """All fractions that a ring or a road can have, and one above all."""
    most = web.most()
    return {Fraction(above, below) for above in range(most + 1) for below in range(1, len(web.standings) + 1)} | {
        Fraction(most + 1)}


def plain_excess(web):
    found = values(web, 1)
    return None if found is None else found[web.first]


def plain_ratio(web):
    return least_of(all_fractions(web), lambda p: values(web, p) is not None)


def plain_per_edit(web):
    def is_enough(p):
        found = values(web, p)
        return found is not None and found[web.first] <= 0

    return least_of(all_fractions(web), is_enough)


def plain_bursts(web, most):
    """The greatest measures for costs up to most; ENDLESS where there is no greatest."""
    keeps = [(one, other, worth) for one, _, other, worth, paid in web.arcs() if paid == 0]
    between = endless_closure(web.standings, keeps)
    tops, items = {}, []
    for spare in range(most + 1):
        bases = {}
        for one in web.standings:
            end = web.end(one)
            bases[one] = NEVER if end is None else end
        for one, _, other, worth, paid in web.arcs():
            if paid == 1 and spare > 0:
                bases[one] = max(bases[one], worth + tops[spare - 1, other])
        for one in web.standings:
            tops[spare, one] = max((between[one, other] + bases[other] for other in web.standings
                                    if between[one, other] != NEVER and bases[other] != NEVER), default=NEVER)
        items.append(tops[spare, web.first])
    return items


def endless_closure(standings, arcs):
    """The greatest sums between all standings by any number of arcs, ENDLESS where a ring between them gains."""
    links = {one: [other for here, other, _ in arcs if here == one] for one in standings}
    ahead = {one: plain.closure(links, one) for one in standings}
    hot = [one for one, other, worth in arcs if worth > 0 and one in ahead[other]]
    found = {}
    for one in standings:
        for other in standings:
            if any(here in ahead[one] and other in ahead[here] for here in hot):
                found[one, other] = ENDLESS
    # Ways that meet no ring that gains.
    cold = closure(standings, [arc for arc in arcs if arc[0] not in hot and arc[1] not in hot])
    return {pair: found.get(pair, cold[pair]) for pair in cold}


def numbered(value):
    """A whole number as an int, what has no end as None."""
    return None if value == ENDLESS else int(value)


def as_pair(value):
    """A Fraction as the program writes it."""
    return None if value is None else (value.numerator, value.denominator)


def walk(web, standing, script):
    """The standings on the way of a script, its measure and its cost; None if some edit is no step."""
    way, worth, paid = [standing], 0, 0
    for edit in script:
        found = [step for step in web.steps[way[-1]] if step[0] == edit]
        if not found:
            return None
        way.append(found[0][1])
        worth += found[0][2 + web.place]
        paid += found[0][4]
    return way, worth, paid


def small_readers(seed, many, most=14, **limits):
    """Readers by chance with few useful standings, with both measures: their parts, web and reader."""
    for parts, table, hold, reader in plain.random_readers(seed, many, **limits):
        if len(plain.plain_useful(parts, table, hold)) <= most:
            for measure in ("told", "mends"):
                yield Web(parts, table, hold, measure), reader


def plain_fault(web, p, prices, most):
    """The first fault of a dict of Fractions that is said to be a certificate, with None where a standing lacks."""
    if prices.get(web.first) is None or prices[web.first] > most:
        return ("begin",)
    for standing in web.standings:
        if prices.get(standing) is None:
            return ("lacks", standing)
    for standing in web.standings:
        for here, edit, ahead, worth, paid in web.arcs():
            if here == standing and prices[standing] < worth - p * paid + prices[ahead]:
                return ("step", standing, edit)
        if web.end(standing) is not None and prices[standing] < web.end(standing):
            return ("end", standing)
    return None


def loop_problem(web, loop):
    """What is wrong with three scripts as points 22 and 24 tell them, but for the turn's own sums; these sums."""
    if not (isinstance(loop, tuple) and len(loop) == 3 and all(isinstance(script, list) for script in loop)):
        return "kind", None
    ahead, turn, behind = loop
    first = walk(web, web.first, ahead)
    if first is None or len(set(first[0])) < len(first[0]):
        return "ahead", None
    here = first[0][-1]
    around = walk(web, here, turn)
    if around is None or not turn or around[0][-1] != here or len(set(around[0])) < len(turn):
        return "turn", None
    last = walk(web, here, behind)
    if last is None or len(set(last[0])) < len(last[0]) or web.end(last[0][-1]) is None:
        return "behind", None
    return None, around[1:]
