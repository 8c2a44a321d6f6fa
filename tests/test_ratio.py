"""Points 23 and 24: the least ratio, the constants and prices beside it, and the rings that have it."""

import random
import unittest
from fractions import Fraction

from slipstold.edits import cost, fewest, source, target
from slipstold.errors import TooLow
from slipstold.excess import ring_fault, turned
from slipstold.machines import Machine
from slipstold.ratio import constant, prices, prices_fault, ratio, slip, tight
from slipstold.readers import Reader
from slipstold.readings import mends, told
from slipstold.web import begin, steps, useful
from tests.plain_web import Web, as_pair, loop_problem, plain_fault, plain_ratio, small_readers, values
from tests.samples import ab, all_rows, long_reader, odd_values, parts_of_200, parts_with_ratio

MEASURES = {"told": lambda reader, row: len(told(reader, row)), "mends": mends}


def slipping(hold=0):
    """A reader that goes to a state without moves behind the first b: that one slip is told without end."""
    machine = Machine(["a", "b"], "s", {("s", "a"): "s"}, ["s", "t"])
    return Reader(machine, {("s", "b"): ("jump", "t"), ("t", "a"): ("skip",), ("t", "b"): ("skip",)}, hold=hold)


class Ratio(unittest.TestCase):
    def test_worked_example(self):
        reader = Reader(ab(), {})
        self.assertEqual(ratio(reader, "told"), (2, 1))
        self.assertEqual(constant(reader, "told", (2, 1)), (0, 1))
        for n in range(5):
            row = ("b",) * 2 * n
            self.assertEqual(told(reader, row), list(range(2 * n)))
            self.assertEqual(fewest(reader.machine, row), n)

    def test_worked_example_below_the_ratio(self):
        for p in ((1, 1), (0, 1), (19, 10), (2 * 10 ** 90 - 1, 10 ** 90)):
            for function in (constant, prices):
                with self.assertRaises(TooLow):
                    function(Reader(ab(), {}), "told", p)

    def test_longer_holds(self):
        self.assertEqual([ratio(Reader(ab(), {}, hold=hold), "told") for hold in range(4)],
                         [(2, 1), (1, 1), (1, 1), (1, 1)])
        self.assertEqual([ratio(Reader(ab(), {}, hold=hold), "mends") for hold in range(4)], [(2, 1)] * 4)

    def test_a_ratio_of_zero(self):
        # Every row is right, so nothing is ever told.
        reader = Reader(Machine(["a"], "s", {("s", "a"): "s"}, ["s"]), {})
        for measure in MEASURES:
            self.assertEqual(ratio(reader, measure), (0, 1))
            self.assertEqual(constant(reader, measure, (0, 1)), (0, 1))
            self.assertIsNone(tight(reader, measure))
            self.assertIsNone(slip(reader, measure))
            self.assertEqual(prices(reader, measure, (0, 1)), {begin(reader): (0, 1)})

    def test_a_ratio_of_none(self):
        reader = slipping()
        for measure in MEASURES:
            self.assertIsNone(ratio(reader, measure))
            self.assertIsNone(tight(reader, measure))
            for p in ((0, 1), (5, 1), (10 ** 100 - 1, 1)):
                for function in (constant, prices):
                    with self.assertRaises(TooLow):
                        function(reader, measure, p)

    def test_readers_by_chance_against_a_plain_search(self):
        answers = {}
        for web, reader in small_readers(301, 500, most_tokens=3, most_states=3):
            found = plain_ratio(web)
            self.assertEqual(ratio(reader, web.measure), as_pair(found))
            answers[found] = answers.get(found, 0) + 1
        self.assertGreater(answers[None], 20)
        self.assertGreater(answers[0], 20)
        self.assertGreater(sum(answers[found] for found in answers if found and found > 1), 20)
        self.assertGreater(len([found for found in answers if found and found.denominator > 1]), 2)

    def test_no_short_row_has_more(self):
        for web, reader in small_readers(302, 60, most_tokens=2, most_states=3):
            p = ratio(reader, web.measure)
            if p is not None:
                c = Fraction(*constant(reader, web.measure, p))
                for row in all_rows(web.parts[0], 5):
                    paid = fewest(reader.machine, row)
                    self.assertLessEqual(MEASURES[web.measure](reader, row), Fraction(*p) * paid + c)


class Constants(unittest.TestCase):
    def test_readers_by_chance_against_a_plain_search(self):
        chance = random.Random(303)
        many = low = 0
        for web, reader in small_readers(303, 300, most_tokens=3, most_states=3):
            found = ratio(reader, web.measure) or (7, 1)
            tries = [Fraction(*found) + Fraction(chance.randint(0, 3), chance.randint(1, 5)) for _ in range(2)]
            for p in tries + [Fraction(*found), abs(Fraction(*found) - Fraction(1, 50))]:
                expected = values(web, p)
                if expected is None:
                    low += 1
                    for function in (constant, prices):
                        with self.assertRaises(TooLow):
                            function(reader, web.measure, as_pair(p))
                    continue
                many += 1
                self.assertEqual(constant(reader, web.measure, as_pair(p)), as_pair(expected[web.first]))
                self.assertEqual(prices(reader, web.measure, as_pair(p)),
                                 {standing: as_pair(expected[standing]) for standing in web.standings})
        self.assertGreater(low, 100)
        self.assertGreater(many, 500)

    def test_prices_in_lowest_terms_at_200_standings(self):
        reader = long_reader(*parts_with_ratio())
        found = prices(reader, "told", (3, 2))
        self.assertEqual(sorted(found), useful(reader))
        self.assertTrue(all(as_pair(Fraction(*price)) == price for price in found.values()))
        self.assertEqual({below for _, below in found.values()}, {1, 2})
        c = constant(reader, "told", (3, 2))
        self.assertEqual(found[begin(reader)], c)
        web = Web(*parts_with_ratio(), 3, "told")
        fractions = {standing: Fraction(*found[standing]) for standing in found}
        self.assertIsNone(plain_fault(web, Fraction(3, 2), fractions, Fraction(*c)))
        self.assertIsNone(prices_fault(reader, "told", (3, 2), found, c))
        with self.assertRaises(TooLow):
            constant(reader, "told", (149, 100))
        self.check_ring(web, reader)

    def check_ring(self, web, reader):
        problem, sums = loop_problem(web, tight(reader, "told"))
        self.assertIsNone(problem)
        self.assertEqual(Fraction(*sums), Fraction(3, 2))

    def test_prices_of_the_worked_example(self):
        reader = Reader(ab(), {})
        self.assertEqual(prices(reader, "told", (2, 1)), {
            (("s", (), 0), "s"): (0, 1), (("s", (), 0), "t"): (1, 1),
            (("t", (), 0), "s"): (1, 1), (("t", (), 0), "t"): (0, 1)})


class PricesByChance(unittest.TestCase):
    def test_against_a_plain_verdict(self):
        chance = random.Random(304)
        kinds = {}
        for web, reader in small_readers(304, 300, most_tokens=2, most_states=3):
            p = ratio(reader, web.measure) or (3, 2)
            base = {one: (2, 1) for one in web.standings}
            if ratio(reader, web.measure) is not None:
                base = prices(reader, web.measure, p)
            for _ in range(6):
                tried = {one: Fraction(*base[one]) for one in base}
                for standing in chance.sample(web.standings, chance.randint(0, min(3, len(web.standings)))):
                    tried[standing] += Fraction(chance.choice((-1, -1, 1, 2, -5)), chance.choice((1, 2, 3, 10 ** 20)))
                most = Fraction(*base[web.first]) + Fraction(chance.choice((-1, 0, 0, 1)), chance.choice((1, 10 ** 30)))
                if chance.random() < 0.3:
                    del tried[chance.choice(web.standings)]
                given = {one: as_pair(tried[one]) for one in tried}
                before = dict(given)
                fault = prices_fault(reader, web.measure, p, given, as_pair(most))
                self.assertEqual(fault, plain_fault(web, Fraction(*p), tried, most))
                self.assertEqual(given, before)
                kinds[fault and fault[0]] = kinds.get(fault and fault[0], 0) + 1
        self.assertEqual(set(kinds), {None, "begin", "lacks", "step", "end"})
        self.assertGreater(min(kinds.values()), 10)


class PricesFaults(unittest.TestCase):
    def setUp(self):
        self.reader = Reader(ab(), {})
        self.prices = prices(self.reader, "told", (2, 1))
        self.first = begin(self.reader)
        self.useful = useful(self.reader)

    def fault(self, changed, c=(0, 1), p=(2, 1)):
        return prices_fault(self.reader, "told", p, changed, c)

    def test_what_is_no_dict(self):
        for value in odd_values() + [[], (), "prices", sorted(self.prices.items())]:
            self.assertEqual(self.fault(value), ("begin",))

    def test_the_bound(self):
        self.assertIsNone(self.fault(self.prices))
        self.assertIsNone(self.fault(self.prices, (1, 10 ** 50)))
        self.assertEqual(self.fault(self.prices, (-1, 10 ** 50)), ("begin",))
        self.assertEqual(self.fault(self.prices, (-1, 1)), ("begin",))

    def test_too_low_is_not_raised(self):
        self.assertEqual(self.fault(self.prices, p=(1, 1))[0], "step")
        self.assertEqual(self.fault(self.prices, p=(0, 1))[0], "step")
        self.assertIsNone(self.fault(self.prices, p=(3, 1)))
        self.assertEqual(prices_fault(slipping(), "told", (9, 1), {}, (0, 1)), ("begin",))

    def test_a_standing_left_out(self):
        for standing in self.useful:
            changed = dict(self.prices)
            del changed[standing]
            self.assertEqual(self.fault(changed), ("begin",) if standing == self.first else ("lacks", standing))

    def test_a_value_that_is_no_fraction(self):
        bad = [value for value in odd_values() if not isinstance(value, tuple)]
        bad += [True, 0, 1, None, "01", (0,), (0, 1, 1), [0, 1], (0, 2), (0, 0), (1, 0), (2, 4), (-2, 4), (1, -1),
                (0, -1), (True, 1), (0, True), (None, 1), ("0", 1), (0, "1"), ((0,), 1), ([0], 1), (0, [1]), ((0, 1), 1)]
        for value in bad:
            self.assertEqual(self.fault({**self.prices, self.first: value}), ("begin",))
            self.assertEqual(self.fault({**self.prices, self.useful[-1]: value}), ("lacks", self.useful[-1]))

    def test_any_fraction_is_one(self):
        last = self.useful[-1]
        for value in ((10 ** 200, 1), (10 ** 200 + 1, 10 ** 200), (1, 10 ** 200)):
            # A higher price makes no end wrong, but the steps to it.
            fault = self.fault({**self.prices, last: value})
            self.assertEqual(fault[0], "step")
        for value in ((-1, 10 ** 200), (-10 ** 200, 1)):
            self.assertIn(self.fault({**self.prices, last: value})[:2], (("step", last), ("end", last)))

    def test_keys_that_are_no_standings(self):
        extra = {None: None, "x": 1, (("s", (), 0), "x"): (0, 0), (): (), 5: 5, frozenset(): {}}
        self.assertIsNone(self.fault({**self.prices, **extra}))
        self.assertEqual(self.fault(extra), ("begin",))

    def test_a_price_just_too_low(self):
        for standing in self.useful:
            above, below = self.prices[standing]
            lower = {**self.prices, standing: (above * 10 ** 40 - 1, 10 ** 40)}
            self.assertIn(self.fault(lower)[0], ("step", "end"))

    def test_the_order_of_the_faults(self):
        changed = {one: (-9, 1) for one in self.useful}
        changed[self.first] = (5, 1)
        self.assertEqual(self.fault(changed), ("begin",))
        del changed[self.useful[-1]]
        self.assertEqual(self.fault(changed), ("begin",))
        self.assertEqual(self.fault(changed, (5, 1)), ("lacks", self.useful[-1]))

    def test_steps_come_before_the_end_of_a_standing(self):
        changed = {**dict.fromkeys(self.useful, (3, 1)), self.first: (-1, 2)}
        self.assertEqual(self.fault(changed), ("step", self.first, steps(self.reader, self.first)[0][0]))
        machine = Machine(["a"], "s", {}, ["s"])
        reader = Reader(machine, {})
        self.assertEqual(useful(reader), [begin(reader)])
        self.assertEqual(prices_fault(reader, "told", (1, 1), {begin(reader): (-1, 3)}, (0, 1)), ("end", begin(reader)))

    def test_a_dict_is_judged_as_it_is_now(self):
        changed = dict(self.prices)
        self.assertIsNone(self.fault(changed))
        changed[self.first] = (-1, 1)
        self.assertIsNotNone(self.fault(changed))
        changed[self.first] = (0, 1)
        self.assertIsNone(self.fault(changed))


class TightRings(unittest.TestCase):
    def test_readers_by_chance(self):
        many = 0
        for web, reader in small_readers(305, 400, most_tokens=3, most_states=4):
            p, loop = ratio(reader, web.measure), tight(reader, web.measure)
            if p in (None, (0, 1)):
                self.assertIsNone(loop)
                continue
            many += 1
            problem, (worth, paid) = loop_problem(web, loop)
            self.assertIsNone(problem)
            self.assertGreaterEqual(paid, 1)
            self.assertEqual(paid, cost(loop[1]))
            self.assertEqual(worth, Fraction(*p) * paid)
            self.assertEqual(ring_fault(reader, web.measure, *loop), None if worth > paid else "gain")
        self.assertGreater(many, 200)

    def test_rows_that_need_the_ratio(self):
        reader = Reader(ab(), {})
        loop = tight(reader, "told")
        sums = []
        for n in range(9):
            row = source(turned(*loop, n))
            sums.append((len(told(reader, row)), fewest(reader.machine, row)))
        turn = cost(loop[1])
        self.assertEqual([sums[n + 1][0] - sums[n][0] for n in range(1, 8)], [2 * turn] * 7)


class Slips(unittest.TestCase):
    def test_readers_by_chance(self):
        many = 0
        for web, reader in small_readers(306, 800, most_tokens=3, most_states=4):
            loop = slip(reader, web.measure)
            if ratio(reader, web.measure) is not None:
                self.assertIsNone(loop)
                continue
            many += 1
            problem, (worth, paid) = loop_problem(web, loop)
            self.assertIsNone(problem)
            self.assertEqual(paid, 0)
            self.assertEqual({edit[0] for edit in loop[1]}, {"keep"})
            self.assertGreaterEqual(worth, 1)
            self.assertIsNone(ring_fault(reader, web.measure, *loop))
        self.assertGreater(many, 40)

    def test_one_slip_brings_errors_without_end(self):
        reader = slipping()
        loop = slip(reader, "told")
        many = [len(told(reader, source(turned(*loop, n)))) for n in range(9)]
        self.assertTrue(all(many[n] < many[n + 1] for n in range(8)))
        self.assertEqual(len({fewest(reader.machine, source(turned(*loop, n))) for n in range(9)}), 1)
        self.assertIn(target(turned(*loop, 5)), reader.machine)

    def test_at_200_standings(self):
        reader = long_reader(*parts_of_200())
        for measure in MEASURES:
            loop = slip(reader, measure)
            problem, (worth, paid) = loop_problem(Web(*parts_of_200(), 3, measure), loop)
            self.assertIsNone(problem)
            self.assertEqual(paid, 0)
            self.assertGreaterEqual(worth, 1)
            self.assertTrue(all(len(script) <= 200 for script in loop))
