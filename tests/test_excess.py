"""Points 21 and 22: the greatest difference, the paper that shows it, and the ring where there is none."""

import random
import unittest

from slipstold.edits import cost, fewest, source, target
from slipstold.errors import BadScript, NoNumber, TooMany
from slipstold.excess import excess, paper, paper_fault, ring, ring_fault, script_of, turned
from slipstold.machines import Machine
from slipstold.readers import Reader
from slipstold.readings import mends, told
from slipstold.web import begin, follow, steps, useful
from tests import plain
from tests.plain_web import Web, loop_problem, plain_excess, plain_fault, small_readers, values, walk
from tests.samples import ab, all_rows, long_reader, odd_values, parts_of_200, parts_with_excess

MEASURES = {"told": lambda reader, row: len(told(reader, row)), "mends": mends}


def held(hold=3):
    """A reader of AB whose excess for told is 0 from the hold 1 on."""
    return Reader(ab(), {}, hold=hold)


class Excess(unittest.TestCase):
    def test_worked_example(self):
        self.assertIsNone(excess(Reader(ab(), {}), "told"))

    def test_a_reader_that_tells_one_error_too_much(self):
        # One wrong token at the beginning brings an error there and one at the end; then it goes on as it should.
        machine = Machine(["a"], "s", {("s", "a"): "t"}, ["t"])
        self.assertEqual(excess(Reader(machine, {}), "told"), 0)
        self.assertEqual(excess(held(1), "told"), 0)
        self.assertEqual(excess(held(3), "mends"), None)

    def test_readers_by_chance_against_a_plain_search(self):
        answers = {}
        for web, reader in small_readers(201, 800, most_tokens=3, most_states=3):
            found = plain_excess(web)
            self.assertEqual(excess(reader, web.measure), None if found is None else int(found))
            self.assertIs(type(excess(reader, web.measure)), type(None) if found is None else int)
            answers[found] = answers.get(found, 0) + 1
        self.assertGreater(answers[None], 40)
        self.assertGreater(answers[0], 40)
        self.assertGreater(sum(answers[found] for found in answers if found), 40)

    def test_no_short_row_has_more(self):
        for web, reader in small_readers(202, 60, most_tokens=2, most_states=3):
            most = excess(reader, web.measure)
            for row in all_rows(web.parts[0], 5):
                found = MEASURES[web.measure](reader, row) - fewest(reader.machine, row)
                if most is not None:
                    self.assertLessEqual(found, most)


class Scripts(unittest.TestCase):
    def test_a_road_that_comes_to_no_standing_twice(self):
        many = 0
        for web, reader in small_readers(203, 800, most_tokens=3, most_states=4):
            script, most = script_of(reader, web.measure), excess(reader, web.measure)
            if most is None:
                self.assertIsNone(script)
                continue
            self.assertIs(type(script), list)
            way, worth, paid = walk(web, web.first, script)
            self.assertEqual(len(set(way)), len(way))
            self.assertIsNotNone(web.end(way[-1]))
            self.assertEqual(worth + web.end(way[-1]) - paid, most)
            self.assertEqual(cost(script), fewest(reader.machine, source(script)))
            self.assertEqual(MEASURES[web.measure](reader, source(script)), worth + web.end(way[-1]))
            self.assertIn(target(script), reader.machine)
            many += len(script) > 1
        self.assertGreater(many, 30)

    def test_at_200_standings(self):
        reader = long_reader(*parts_with_excess())
        script = script_of(reader, "told")
        self.assertEqual(len(told(reader, source(script))) - fewest(reader.machine, source(script)), 3)
        self.assertEqual(cost(script), fewest(reader.machine, source(script)))
        self.assertLess(len(script), 200)


class Papers(unittest.TestCase):
    def test_readers_by_chance_against_a_plain_search(self):
        for web, reader in small_readers(204, 300, most_tokens=3, most_states=3):
            found, expected = paper(reader, web.measure), values(web, 1)
            if expected is None:
                self.assertIsNone(found)
                continue
            self.assertEqual(found, expected)
            self.assertEqual({type(number) for number in found.values()}, {int})
            self.assertIsNone(paper_fault(reader, web.measure, found, excess(reader, web.measure)))
            self.assertEqual(paper_fault(reader, web.measure, found, excess(reader, web.measure) - 1), ("begin",))

    def test_at_200_standings(self):
        reader = long_reader(*parts_with_excess())
        found = paper(reader, "told")
        self.assertEqual(sorted(found), useful(reader))
        self.assertEqual(found[begin(reader)], 3)
        web = Web(*parts_with_excess(), 3, "told")
        self.assertIsNone(plain_fault(web, 1, found, 3))
        self.assertIsNone(paper_fault(reader, "told", found, 3))

    def test_papers_by_chance(self):
        chance = random.Random(205)
        kinds = {}
        for web, reader in small_readers(205, 300, most_tokens=2, most_states=3):
            base = paper(reader, web.measure) or dict.fromkeys(web.standings, 2)
            for _ in range(6):
                tried = dict(base)
                for standing in chance.sample(web.standings, chance.randint(0, min(3, len(web.standings)))):
                    tried[standing] += chance.choice((-1, -1, 1, 2, -5))
                most = base[web.first] + chance.choice((-1, 0, 0, 1))
                if chance.random() < 0.3:
                    del tried[chance.choice(web.standings)]
                before = dict(tried)
                fault = paper_fault(reader, web.measure, tried, most)
                self.assertEqual(fault, plain_fault(web, 1, tried, most))
                self.assertEqual(tried, before)
                kinds[fault and fault[0]] = kinds.get(fault and fault[0], 0) + 1
        self.assertEqual(set(kinds), {None, "begin", "lacks", "step", "end"})
        self.assertGreater(min(kinds.values()), 10)


class PaperFaults(unittest.TestCase):
    def setUp(self):
        self.reader = held(1)
        self.paper = paper(self.reader, "told")
        self.first = begin(self.reader)
        self.useful = useful(self.reader)

    def fault(self, changed, most=0):
        return paper_fault(self.reader, "told", changed, most)

    def test_what_is_no_dict(self):
        for value in odd_values() + [[], (), "paper", sorted(self.paper.items())]:
            self.assertEqual(self.fault(value, 5), ("begin",))

    def test_most(self):
        self.assertEqual(self.paper[self.first], 0)
        self.assertEqual(self.fault(self.paper, -1), ("begin",))
        self.assertIsNone(self.fault(self.paper, 0))
        self.assertIsNone(self.fault(self.paper, 1))
        higher = {standing: self.paper[standing] + 7 for standing in self.useful}
        self.assertEqual(self.fault(higher, 6), ("begin",))
        self.assertIsNone(self.fault(higher, 7))

    def test_a_standing_left_out(self):
        for standing in self.useful:
            changed = dict(self.paper)
            del changed[standing]
            self.assertEqual(self.fault(changed), ("begin",) if standing == self.first else ("lacks", standing))
        self.assertEqual(self.fault({self.first: 0}), ("lacks", [one for one in self.useful if one != self.first][0]))
        self.assertEqual(self.fault({}), ("begin",))

    def test_a_value_of_another_kind(self):
        for value in odd_values() + [(0, 1), [0], "0"]:
            if isinstance(value, int) and not isinstance(value, bool):
                continue
            self.assertEqual(self.fault({**self.paper, self.first: value}), ("begin",))
            self.assertEqual(self.fault({**self.paper, self.useful[-1]: value}), ("lacks", self.useful[-1]))

    def test_keys_that_are_no_standings(self):
        extra = {None: None, "x": 1, (("s", (), 0), "x"): "y", ((("s", (), 9), "s")): -9, (): (), 5: 5, frozenset(): {}}
        self.assertIsNone(self.fault({**self.paper, **extra}))
        self.assertEqual(self.fault(extra), ("begin",))

    def test_the_order_of_the_faults(self):
        zero = dict.fromkeys(self.useful, -9)
        # The beginning is not above most, but its own step to a higher price is wrong.
        self.assertEqual(self.fault({**zero, self.first: 5}), ("begin",))
        lacking = {**zero, self.first: 5}
        del lacking[self.useful[-1]]
        self.assertEqual(self.fault(lacking), ("begin",))
        self.assertEqual(self.fault(lacking, 5), ("lacks", self.useful[-1]))

    def test_steps_come_before_the_end_of_a_standing(self):
        # At the beginning of AB both the end (0) and the keep of a are above the price -1.
        first = self.useful[0]
        self.assertEqual(first, self.first)
        changed = {**dict.fromkeys(self.useful, 3), first: -1}
        self.assertEqual(self.fault(changed)[:2], ("step", first))
        self.assertEqual(self.fault(changed)[2], steps(self.reader, first)[0][0])
        # All prices are the same: no step but one with a gain is wrong.
        self.assertEqual(self.fault(dict.fromkeys(self.useful, -1)), ("end", first))

    def test_a_dict_is_judged_as_it_is_now(self):
        changed = dict(self.paper)
        self.assertIsNone(self.fault(changed))
        changed[self.first] -= 1
        self.assertIsNotNone(self.fault(changed))
        changed[self.first] += 1
        self.assertIsNone(self.fault(changed))

    def test_paper_of_another_measure(self):
        # A prefix of a is right, and every other token is skipped: what is mended is what it costs.
        reader = Reader(Machine(["a", "b"], "s", {("s", "a"): "s"}, ["s"]), {}, hold=2)
        self.assertEqual(excess(reader, "mends"), 0)
        self.assertIsNone(paper_fault(reader, "mends", paper(reader, "mends"), 0))
        # Fewer errors are told than mended, so this paper will do for both.
        self.assertIsNone(paper_fault(reader, "told", paper(reader, "mends"), 0))
        told_alone = paper(self.reader, "told")
        self.assertEqual(paper_fault(self.reader, "mends", told_alone, 0)[0], "step")


class Rings(unittest.TestCase):
    def test_readers_by_chance(self):
        many = 0
        for web, reader in small_readers(206, 500, most_tokens=3, most_states=4):
            loop = ring(reader, web.measure)
            if excess(reader, web.measure) is not None:
                self.assertIsNone(loop)
                continue
            many += 1
            problem, (worth, paid) = loop_problem(web, loop)
            self.assertIsNone(problem)
            self.assertGreaterEqual(worth - paid, 1)
            self.assertEqual(cost(loop[1]), paid)
            self.assertIsNone(ring_fault(reader, web.measure, *loop))
            self.check_turned(web, reader, loop)
        self.assertGreater(many, 60)

    def check_turned(self, web, reader, loop):
        """Each turn more brings at least one more."""
        measure = MEASURES[web.measure]
        sums = []
        for n in range(9):
            script = turned(*loop, n)
            row = source(script)
            self.assertIn(target(script), reader.machine)
            self.assertGreaterEqual(cost(script), fewest(reader.machine, row))
            sums.append(measure(reader, row) - cost(script))
        self.assertTrue(all(sums[n + 1] > sums[n] for n in range(8)))

    def test_at_200_standings(self):
        reader = long_reader(*parts_of_200())
        for measure in ("told", "mends"):
            loop = ring(reader, measure)
            self.assertEqual(loop_problem(Web(*parts_of_200(), 3, measure), loop)[0], None)
            self.assertIsNone(ring_fault(reader, measure, *loop))
            self.assertTrue(all(len(script) <= 200 for script in loop))

    def test_a_verdict_where_the_standings_are_too_many(self):
        reader = long_reader(*parts_of_200()).with_action("p", "a", ("pass", ("d",), "s"))
        with self.assertRaises(TooMany):
            useful(reader)
        with self.assertRaises(TooMany):
            ring(reader, "told")
        ahead = [("turn", "b", "d"), ("turn", "d", "b"), ("keep", "a")]
        turn = [("keep", "d"), ("keep", "a"), ("keep", "d"), ("keep", "a")]
        self.assertIsNone(ring_fault(reader, "told", ahead, turn, []))
        self.assertIsNone(ring_fault(reader, "mends", ahead, turn, []))
        self.assertEqual(ring_fault(reader, "told", ahead, turn[:2], []), "turn")
        self.assertEqual(ring_fault(reader, "told", ahead, turn, turn[:1]), "behind")


class RingFaults(unittest.TestCase):
    def setUp(self):
        self.reader = Reader(ab(), {})
        self.good = ([("keep", "a")], [("turn", "a", "b"), ("keep", "a")], [("keep", "b")])

    def fault(self, ahead=None, turn=None, behind=None, measure="told"):
        given = (ahead, turn, behind)
        return ring_fault(self.reader, measure, *[self.good[k] if given[k] is None else given[k] for k in range(3)])

    def test_a_good_one(self):
        for kind in (list, tuple):
            self.assertIsNone(ring_fault(self.reader, "told", *[kind(script) for script in self.good]))
        self.assertIsNone(self.fault(measure="mends"))

    def test_ahead(self):
        for ahead in ([("keep", "b")], [("put", "b")], [("keep", "a"), ("keep", "a")], [None], [["keep", "a"]],
                      [("keep", "a")] * 5001, "keep", 5, {}, [("keep", "a"), ("x", "b")]):
            self.assertEqual(self.fault(ahead=ahead), "ahead")
            self.assertEqual(self.fault(ahead=ahead, turn=[], behind=[None], measure="mends"), "ahead")

    def test_turn(self):
        for turn in ([], (), [("keep", "a")], [("turn", "a", "b")], [None], ["turn"], [("drop", "A")], 7, {},
                     [("turn", "a", "b"), ("keep", "a")] * 2501):
            self.assertEqual(self.fault(turn=turn), "turn")
            self.assertEqual(self.fault(turn=turn, behind=[None]), "turn")
        # It leads back in the machine, but the reader is elsewhere.
        self.assertEqual(self.fault(turn=[("keep", "b"), ("put", "a")]), "turn")

    def test_behind(self):
        for behind in ([], (), [("keep", "a")], [("keep", "b"), ("keep", "a")], [None], [["keep", "b"]], "behind", None,
                       3, [("keep", "b"), ("put", "x")], [("drop", "a")] * 5001):
            self.assertEqual(ring_fault(self.reader, "told", self.good[0], self.good[1], behind), "behind")
        # The turn is without a gain, but that comes last.
        self.assertEqual(ring_fault(self.reader, "told", [("keep", "a")], [("drop", "a")], []), "behind")
        self.assertEqual(ring_fault(self.reader, "told", [("keep", "a")], [("drop", "a")], [("keep", "b")]), "gain")

    def test_gain(self):
        self.assertEqual(ring_fault(self.reader, "told", [], [("drop", "b")], []), "gain")
        self.assertEqual(ring_fault(self.reader, "told", [], [("drop", "b")], [("keep", "a")]), "behind")
        self.assertEqual(ring_fault(self.reader, "told", [], [("keep", "a"), ("keep", "b")], []), "gain")
        held_reader = self.reader.with_hold(1)
        turn = [("turn", "b", "a"), ("keep", "b")]
        # With the hold only one of the two errors is told, but both are mended.
        self.assertIsNone(ring_fault(held_reader, "mends", turn, turn, []))

    def test_a_gain_in_one_measure_alone(self):
        reader = self.reader.with_hold(1)
        first = follow(reader, begin(reader), [("turn", "b", "a"), ("keep", "b")])
        again = follow(reader, first[0], [("turn", "b", "a"), ("keep", "b")])
        self.assertEqual(again[0], first[0])
        turn = [("turn", "b", "a"), ("keep", "b")]
        self.assertIsNone(ring_fault(reader, "mends", turn, turn, []))
        self.assertEqual(ring_fault(reader, "told", turn, turn, []), "gain")

    def test_standings_may_come_twice(self):
        ahead, turn, behind = self.good
        again = [("keep", "a"), ("keep", "b")] * 3
        self.assertIsNone(ring_fault(self.reader, "told", again + ahead, turn * 3, behind + again))

    def test_scripts_of_5000_edits(self):
        turn = [("turn", "b", "a"), ("keep", "b")]
        long = [("keep", "a"), ("keep", "b")] * 2500
        self.assertEqual(len(long), 5000)
        self.assertIsNone(ring_fault(self.reader, "told", long, turn * 2500, long))
        more = long + [("put", "a")]
        self.assertEqual(ring_fault(self.reader, "told", more, turn, []), "ahead")
        self.assertEqual(ring_fault(self.reader, "told", long, turn * 2500 + turn, long), "turn")
        self.assertEqual(ring_fault(self.reader, "told", long, turn, long + long[:1]), "behind")

    def test_odd_values(self):
        for value in odd_values():
            self.assertEqual(ring_fault(self.reader, "told", [value], None, None), "ahead")
            self.assertEqual(ring_fault(self.reader, "told", [], [value], None), "turn")
            self.assertEqual(ring_fault(self.reader, "told", *self.good[:2], [value]), "behind")
            if not isinstance(value, (list, tuple)):
                self.assertEqual(ring_fault(self.reader, "told", value, value, value), "ahead")
                self.assertEqual(ring_fault(self.reader, "told", [], value, value), "turn")
                self.assertEqual(ring_fault(self.reader, "told", *self.good[:2], value), "behind")


class Turned(unittest.TestCase):
    def test_lists_and_tuples(self):
        ahead, turn, behind = [("keep", "a")], (("drop", "b"), ("put", "c")), [("turn", "x", "y")]
        for n in range(9):
            self.assertEqual(turned(ahead, turn, behind, n), ahead + list(turn) * n + behind)
            self.assertIs(type(turned(tuple(ahead), turn, tuple(behind), n)), list)
        self.assertEqual(turned((), (), (), 8), [])

    def test_bad_scripts(self):
        good = [("keep", "a")]
        for bad, place in ((None, -1), ("keep", -1), ({}, -1), ([("put", "a")] * 5001, -1), ([None], 0),
                           ([("keep", "a"), ["keep", "a"]], 1), ((("turn", "a", "a"),), 0)):
            for scripts in ((bad, None, None), (good, bad, None), (good, good, bad)):
                with self.assertRaises(BadScript) as caught:
                    turned(*scripts, None)
                self.assertEqual(caught.exception.place, place)

    def test_odd_values(self):
        for value in odd_values():
            for scripts in (([value], [], []), ([], [value], []), ([], [], [value])):
                with self.assertRaises(BadScript) as caught:
                    turned(*scripts, 0)
                self.assertEqual(caught.exception.place, 0)
            if value not in (0, 1) or isinstance(value, bool):
                with self.assertRaises(NoNumber):
                    turned([], [], [], value)
        for value in (9, -1, 10 ** 40, True):
            with self.assertRaises(NoNumber):
                turned([], [], [], value)

    def test_5000_edits(self):
        keep = [("keep", "a")]
        self.assertEqual(len(turned(keep * 500, keep * 500, keep * 500, 8)), 5000)
        self.assertEqual(len(turned(keep * 2500, keep * 5000, keep * 2500, 0)), 5000)
        for scripts in ((keep * 501, keep * 500, keep * 500, 8), (keep * 2500, [], keep * 2501, 0),
                        ([], keep * 2501, [], 2), ([], keep * 5000, keep, 1)):
            with self.assertRaises(TooMany) as caught:
                turned(*scripts)
            self.assertEqual(caught.exception.limit, 5000)


class PlainWeb(unittest.TestCase):
    def test_the_web_of_ab(self):
        web = Web(*plain_ab(), 0, "told")
        self.assertEqual(len(web.standings), 4)
        self.assertEqual(web.end((("t", (), 0), "s")), 1)
        self.assertIsNone(web.end((("t", (), 0), "t")))


def plain_ab():
    """The parts of AB and an empty table."""
    return (("a", "b"), "s", {("s", "a"): "t", ("t", "b"): "s"}, ("s",)), {}
