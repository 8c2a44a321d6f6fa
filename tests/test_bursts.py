"""Point 25: the greatest measure for a few edits, the roads that reach it, and the least ratio without a constant."""

import unittest
from fractions import Fraction

from slipstold.bursts import burst_script, bursts, per_edit
from slipstold.edits import cost, fewest, source, target
from slipstold.machines import Machine
from slipstold.ratio import constant, ratio
from slipstold.readers import Reader
from slipstold.readings import mends, told
from slipstold.web import useful
from tests.plain_web import Web, as_pair, numbered, plain_bursts, plain_per_edit, small_readers, walk
from tests.samples import ab, all_rows, long_reader, parts_of_200, parts_with_excess, parts_with_ratio

MEASURES = {"told": lambda reader, row: len(told(reader, row)), "mends": mends}
# Behind one edit the measure is bounded, behind two it is not: parts, table, hold and measure.
LATE = [
    ((("c", "a"), "p", {("p", "c"): "p", ("p", "a"): "t"}, ("s", "u", "p")),
     {("t", "c"): ("pass", ("a",), "s"), ("u", "c"): ("jump", "p")}, 1, "told"),
    ((("b", "d", "a", "c"), "t", {("t", "b"): "r", ("t", "d"): "t", ("r", "d"): "r", ("r", "a"): "r"}, ("t",)),
     {("r", "b"): ("pass", ("c",), "r"), ("r", "c"): ("jump", "t"), ("t", "a"): ("jump", "r")}, 0, "mends"),
    ((("b", "d", "c", "a"), "p", {("p", "b"): "p", ("p", "c"): "s", ("s", "b"): "q", ("r", "b"): "q", ("r", "a"): "t",
                                  ("t", "b"): "p"}, ("p", "r", "t", "q")),
     {("p", "a"): ("put", "c"), ("q", "b"): ("pass", ("c", "d", "b"), "p"), ("q", "c"): ("jump", "t"),
      ("r", "c"): ("pass", ("a", "d"), "t"), ("r", "d"): ("pass", ("a",), "q"), ("s", "c"): ("take", "b"),
      ("s", "d"): ("put", "b"), ("t", "a"): ("pass", ("c", "d"), "p"), ("t", "d"): ("take", "b")}, 1, "mends"),
]


def late_readers():
    """The readers of LATE with their webs."""
    for parts, table, hold, measure in LATE:
        yield Web(parts, table, hold, measure), Reader(Machine(*parts), table, hold=hold)


class Bursts(unittest.TestCase):
    def test_worked_example(self):
        self.assertEqual(bursts(Reader(ab(), {}), "told", 2), [0, 2, 4])

    def test_counts(self):
        reader = Reader(ab(), {}, hold=2)
        self.assertEqual(bursts(reader, "told", 0), [0])
        self.assertEqual(bursts(reader, "told", 1), [0, 1])
        for n in range(9):
            self.assertEqual(bursts(reader, "told", n), bursts(reader, "told", 8)[:n + 1])
            self.assertEqual(len(bursts(reader, "mends", n)), n + 1)

    def test_readers_by_chance_against_a_plain_search(self):
        endless = 0
        for web, reader in small_readers(401, 400, most_tokens=3, most_states=4):
            found = bursts(reader, web.measure, 8)
            self.assertEqual(found, [numbered(item) for item in plain_bursts(web, 8)])
            endless += None in found
        self.assertGreater(endless, 20)

    def test_an_end_that_needs_edits_of_its_own(self):
        items = []
        for web, reader in late_readers():
            found = bursts(reader, web.measure, 8)
            self.assertEqual(found, [numbered(item) for item in plain_bursts(web, 8)])
            items.append(found)
        self.assertEqual(items[0], [0, 1] + [None] * 7)
        self.assertEqual(items[1], [0, 2] + [None] * 7)
        self.assertEqual(items[2], [0, 4, 7] + [None] * 6)

    def test_no_short_row_has_more(self):
        for web, reader in small_readers(402, 60, most_tokens=2, most_states=3):
            found = bursts(reader, web.measure, 6)
            for row in all_rows(web.parts[0], 5):
                most = found[fewest(reader.machine, row)]
                if most is not None:
                    self.assertLessEqual(MEASURES[web.measure](reader, row), most)

    def test_short_rows_reach_the_first_items(self):
        reader = Reader(ab(), {}, hold=1)
        for measure in MEASURES:
            best = [0, 0, 0]
            for row in all_rows("ab", 7):
                paid = fewest(reader.machine, row)
                for k in range(paid, 3):
                    best[k] = max(best[k], MEASURES[measure](reader, row))
            self.assertEqual(bursts(reader, measure, 2), best)


class Scripts(unittest.TestCase):
    def check(self, web, reader, n):
        most = bursts(reader, web.measure, n)[n]
        script = burst_script(reader, web.measure, n)
        if most is None:
            self.assertIsNone(script)
            return
        self.assertIs(type(script), list)
        self.assertLessEqual(len(script), 1800)
        self.assertLessEqual(cost(script), n)
        way, worth, paid = walk(web, web.first, script)
        self.assertEqual(worth + web.end(way[-1]), most)
        self.assertEqual(paid, cost(script))
        self.assertEqual(MEASURES[web.measure](reader, source(script)), most)
        self.assertIn(target(script), reader.machine)

    def test_readers_by_chance(self):
        for number, (web, reader) in enumerate(small_readers(403, 300, most_tokens=3, most_states=4)):
            self.check(web, reader, number % 9)

    def test_late_readers(self):
        for web, reader in late_readers():
            for n in range(9):
                self.check(web, reader, n)

    def test_no_edit_gives_a_right_row(self):
        script = burst_script(Reader(ab(), {}), "told", 0)
        self.assertEqual(cost(script), 0)
        self.assertIn(source(script), ab())

    def test_at_200_standings(self):
        for parts in (parts_of_200(), parts_with_excess(), parts_with_ratio()):
            reader = long_reader(*parts)
            self.assertEqual(len(useful(reader)), 200)
            for measure in MEASURES:
                for n in (0, 1, 8):
                    self.check(Web(*parts, 3, measure), reader, n)


class PerEdit(unittest.TestCase):
    def test_the_worked_reader(self):
        self.assertEqual(per_edit(Reader(ab(), {}), "told"), (2, 1))
        self.assertEqual(per_edit(Reader(ab(), {}, hold=1), "told"), (1, 1))
        self.assertEqual(per_edit(Reader(ab(), {}, hold=1), "mends"), (2, 1))

    def test_nothing_is_ever_told(self):
        reader = Reader(Machine(["a"], "s", {("s", "a"): "s"}, ["s"]), {})
        self.assertEqual(per_edit(reader, "told"), (0, 1))
        self.assertEqual(per_edit(reader, "mends"), (0, 1))

    def test_no_ratio_will_do(self):
        for web, reader in late_readers():
            self.assertIsNone(per_edit(reader, web.measure))
        self.assertIsNone(per_edit(long_reader(*parts_of_200()), "told"))

    def test_readers_by_chance_against_a_plain_search(self):
        higher = none = parted = 0
        for web, reader in small_readers(404, 400, most_tokens=3, most_states=4):
            found = per_edit(reader, web.measure)
            self.assertEqual(found, as_pair(plain_per_edit(web)))
            if found is None:
                none += 1
                self.assertIsNone(ratio(reader, web.measure))
                continue
            self.assertEqual(constant(reader, web.measure, found), (0, 1))
            higher += found != ratio(reader, web.measure)
            parted += found[1] > 1
        self.assertGreater(none, 10)
        self.assertGreater(higher, 50)
        self.assertGreater(parted, 2)

    def test_it_bounds_all_short_rows(self):
        for web, reader in small_readers(405, 60, most_tokens=2, most_states=3):
            p = per_edit(reader, web.measure)
            if p is not None:
                for row in all_rows(web.parts[0], 5):
                    self.assertLessEqual(MEASURES[web.measure](reader, row),
                                         Fraction(*p) * fewest(reader.machine, row))

    def test_at_200_standings(self):
        for parts in (parts_with_excess(), parts_with_ratio()):
            reader = long_reader(*parts)
            self.assertEqual(per_edit(reader, "told"), (3, 1))
            self.assertEqual(constant(reader, "told", (3, 1)), (0, 1))
            self.assertGreater(constant(reader, "told", (299, 100)), (0, 1))
