"""What all functions of points 21 to 26 have in common: measures, numbers, too many standings, the order of errors."""

import copy
import unittest

from slipstold import bursts, choices, excess, ratio
from slipstold.errors import BadScript, NoChoice, NoMeasure, NoNumber, SlipError, TooLow, TooMany
from slipstold.readers import Reader
from slipstold.web import begin, useful
from tests.samples import (ab, long_reader, odd_values, parts_of_200, parts_of_201, parts_with_excess,
                           parts_with_ratio)

# All functions with a parameter measure, with good arguments behind it for a reader of AB.
MEASURED = [
    (excess.excess, ()), (excess.script_of, ()), (excess.paper, ()), (excess.paper_fault, ({}, 0)),
    (excess.ring, ()), (excess.ring_fault, ([], [], [])),
    (ratio.ratio, ()), (ratio.constant, ((2, 1),)), (ratio.prices, ((2, 1),)),
    (ratio.prices_fault, ((2, 1), {}, (0, 1))), (ratio.tight, ()), (ratio.slip, ()),
    (bursts.bursts, (2,)), (bursts.burst_script, (2,)), (bursts.per_edit, ()),
    (choices.least_hold, ((2, 1),)), (choices.best, ([],)),
]
WITH_RATIO = (ratio.constant, ratio.prices, choices.least_hold)
WITH_COUNT = (bursts.bursts, bursts.burst_script)
BIG = 10 ** 100
BAD_FRACTIONS = [
    None, True, False, 0, 1, -1, 9, "1", "11", (), (1,), (1, 1, 1), [1, 1], [2, 1], (1, 0), (0, 0), (0, 2), (2, 4),
    (3, 3), (1, -1), (-1, -1), (0, -1), (True, 1), (1, True), (False, 1), (None, 1), (1, None), ("1", 1), ((1,), 1), (1, [1]),
    {1: 1}, {(1, 1)}, ((1, 1),), ((1, 1), 1),
]
# Fractions that are good for c and as prices, but not as a ratio.
BAD_RATIOS = BAD_FRACTIONS + [(-1, 2), (-1, 1), (-BIG, 1), (BIG, 1), (1, BIG), (BIG + 1, BIG), (10 * BIG + 1, 3)]
BAD_COUNTS = [None, True, False, -1, 9, 10 ** 30, "1", "", (), [], (1,), [1], {}, (1, 1)]


def reader():
    return Reader(ab(), {})


def too_big():
    return long_reader(*parts_of_201())


class Case(unittest.TestCase):
    def assert_raises(self, error, function, *arguments):
        with self.assertRaises(error) as caught:
            function(*arguments)
        self.assertIs(type(caught.exception), error)
        return caught.exception


class Measures(Case):
    def test_both_measures_are_good(self):
        for function, more in MEASURED:
            for measure in ("told", "mends"):
                function(reader(), measure, *more)

    def test_anything_else_is_none(self):
        for value in odd_values() + ["Told", "told ", "tell", "mend", "MENDS", "cost", ["told"], ("told",), {"told": 1},
                                     ("told", "mends"), b"told"]:
            for function, more in MEASURED:
                self.assert_raises(NoMeasure, function, reader(), value, *more)

    def test_ahead_of_the_errors_of_later_arguments(self):
        for big in (reader(), too_big()):
            for function, more in MEASURED:
                for value in (None, -1, 9, "x", [None]):
                    self.assert_raises(NoMeasure, function, big, "x", *[value for _ in more])


class Numbers(Case):
    def test_bad_ratios(self):
        for value in BAD_RATIOS + [value for value in odd_values() if not isinstance(value, tuple)]:
            for big in (reader(), too_big()):
                for function in WITH_RATIO:
                    self.assert_raises(NoNumber, function, big, "told", value)
                self.assert_raises(NoNumber, ratio.prices_fault, big, "told", value, {}, (0, 1))
                # Both are bad.
                self.assert_raises(NoNumber, ratio.prices_fault, big, "told", value, None, None)

    def test_odd_parts_of_fractions(self):
        for value in odd_values():
            if not isinstance(value, int) or isinstance(value, bool):
                for pair in ((value, 1), (1, value), (value, value)):
                    for function in WITH_RATIO:
                        self.assert_raises(NoNumber, function, reader(), "mends", pair)
                    self.assert_raises(NoNumber, ratio.prices_fault, reader(), "mends", pair, {}, (0, 1))
                    self.assert_raises(NoNumber, ratio.prices_fault, reader(), "mends", (2, 1), {}, pair)

    def test_numbers_of_a_hundred_figures(self):
        for p in ((BIG - 1, 1), (BIG - 1, BIG - 2)):
            self.assertEqual(choices.least_hold(reader(), "told", p), 0 if p[1] == 1 else 1)
        self.assertEqual(ratio.constant(reader(), "told", (BIG - 1, 1)), (0, 1))
        self.assertEqual(ratio.constant(reader().with_hold(1), "told", (BIG - 1, BIG - 2)), (0, 1))
        held = reader().with_hold(3)
        self.assertEqual(ratio.ratio(held, "told"), (1, 1))
        self.assert_raises(TooLow, ratio.constant, held, "told", (BIG - 2, BIG - 1))
        self.assert_raises(TooLow, ratio.prices, held, "told", (1, BIG - 1))

    def test_answers_of_a_hundred_figures(self):
        big = long_reader(*parts_with_excess())
        # The greatest difference, 3, costs 2 edits at least.
        p = (BIG - 1, BIG - 2)
        c = ratio.constant(big, "told", p)
        self.assertEqual(c, ((3 * BIG - 8) // 2, (BIG - 2) // 2))
        prices = ratio.prices(big, "told", p)
        self.assertEqual(prices[begin(big)], c)
        self.assertIsNone(ratio.prices_fault(big, "told", p, prices, c))
        less = (c[0] * 10 ** 60 - 1, c[1] * 10 ** 60)
        self.assertEqual(ratio.prices_fault(big, "told", p, prices, less), ("begin",))

    def test_bad_counts(self):
        for value in BAD_COUNTS + [value for value in odd_values() if value not in (0, 1)]:
            for big in (reader(), too_big()):
                for function in WITH_COUNT:
                    self.assert_raises(NoNumber, function, big, "told", value)

    def test_good_counts(self):
        for n in range(9):
            self.assertEqual(bursts.bursts(reader(), "told", n), [2 * k for k in range(n + 1)])

    def test_bad_numbers_of_certificates(self):
        for big in (reader(), too_big()):
            for value in odd_values() + [(1, 1), [1], "0"]:
                if not isinstance(value, int) or isinstance(value, bool):
                    self.assert_raises(NoNumber, excess.paper_fault, big, "told", {}, value)
                    self.assert_raises(NoNumber, excess.paper_fault, big, "told", None, value)
            for value in BAD_FRACTIONS + [value for value in odd_values() if not isinstance(value, tuple)]:
                self.assert_raises(NoNumber, ratio.prices_fault, big, "told", (2, 1), {}, value)
                self.assert_raises(NoNumber, ratio.prices_fault, big, "told", (2, 1), None, value)

    def test_good_numbers_of_certificates(self):
        paper = excess.paper(reader().with_hold(3), "told")
        for most in (0, 5, BIG, 10 ** 300):
            self.assertIsNone(excess.paper_fault(reader().with_hold(3), "told", paper, most))
        for most in (-1, -BIG):
            self.assertEqual(excess.paper_fault(reader().with_hold(3), "told", paper, most), ("begin",))
        prices = ratio.prices(reader(), "told", (2, 1))
        for c in ((0, 1), (1, 10 ** 300), (10 ** 300, 1), (10 ** 300 + 1, 10 ** 300)):
            self.assertIsNone(ratio.prices_fault(reader(), "told", (2, 1), prices, c))
        for c in ((-1, 10 ** 300), (-10 ** 300, 1)):
            self.assertEqual(ratio.prices_fault(reader(), "told", (2, 1), prices, c), ("begin",))


class ManyStandings(Case):
    def test_more_than_200(self):
        self.assert_raises(TooMany, useful, too_big())
        for function, more in MEASURED:
            if function not in (excess.ring_fault, choices.least_hold):
                for measure in ("told", "mends"):
                    self.assertEqual(self.assert_raises(TooMany, function, too_big(), measure, *more).limit, 200)

    def test_too_many_stands_ahead_of_too_low(self):
        for function in (ratio.constant, ratio.prices):
            self.assert_raises(TooMany, function, too_big(), "mends", (0, 1))
            self.assert_raises(TooLow, function, too_big().with_hold(2), "mends", (0, 1))
            self.assert_raises(TooLow, function, long_reader(*parts_of_200()), "mends", (0, 1))

    def test_bad_arguments_stand_ahead_of_too_many(self):
        self.assert_raises(NoNumber, ratio.constant, too_big(), "told", (2, 4))
        self.assert_raises(NoNumber, bursts.bursts, too_big(), "told", 9)
        self.assert_raises(NoNumber, excess.paper_fault, too_big(), "told", {}, None)
        self.assert_raises(NoNumber, ratio.prices_fault, too_big(), "told", (1, 1), {}, 1)
        self.assertEqual(self.assert_raises(NoChoice, choices.best, too_big(), "told", [None]).place, 0)

    def test_ring_fault_and_turned_have_no_such_limit(self):
        big = too_big()
        self.assertEqual(excess.ring_fault(big, "told", [], [("drop", "a")], []), "turn")
        self.assertEqual(excess.ring_fault(big, "told", [("put", "b")], [], []), "ahead")
        self.assertEqual(excess.turned([("keep", "a")], [("drop", "b")], [], 2), [("keep", "a")] + [("drop", "b")] * 2)

    def test_verdicts_raise_it_too(self):
        for paper in ({}, None, {useful(too_big().with_hold(2))[0]: 0}):
            self.assert_raises(TooMany, excess.paper_fault, too_big(), "told", paper, 0)
            self.assert_raises(TooMany, ratio.prices_fault, too_big(), "told", (1, 1), paper, (0, 1))

    def test_answers_at_200(self):
        for parts in (parts_of_200(), parts_with_excess(), parts_with_ratio()):
            big = long_reader(*parts)
            self.assertEqual(len(useful(big)), 200)
            for function, more in MEASURED:
                try:
                    function(big, "told", *more)
                except TooLow:
                    self.assertIn(function, (ratio.constant, ratio.prices))

    def test_the_numbers_at_200(self):
        big = long_reader(*parts_with_excess())
        self.assertEqual(excess.excess(big, "told"), 3)
        self.assertEqual(ratio.ratio(big, "told"), (1, 1))
        self.assertEqual(ratio.constant(big, "told", (1, 1)), (3, 1))
        self.assertEqual(bursts.per_edit(big, "told"), (3, 1))
        self.assertEqual(bursts.bursts(big, "told", 8), [0, 3, 5, 6, 7, 8, 9, 10, 11])
        big = long_reader(*parts_with_ratio())
        self.assertIsNone(excess.excess(big, "told"))
        self.assertEqual(ratio.ratio(big, "told"), (3, 2))
        self.assertEqual(bursts.per_edit(big, "told"), (3, 1))
        self.assertEqual(bursts.bursts(big, "told", 8), [0, 3, 5, 6, 8, 9, 11, 12, 14])


class OrderOfParameters(Case):
    def test_turned(self):
        good, bad = [("keep", "a")], [("keep", "a"), None]
        self.assertEqual(self.assert_raises(BadScript, excess.turned, bad, None, None, None).place, 1)
        self.assertEqual(self.assert_raises(BadScript, excess.turned, good, None, bad, None).place, -1)
        self.assertEqual(self.assert_raises(BadScript, excess.turned, good, good, bad, None).place, 1)
        self.assert_raises(NoNumber, excess.turned, good * 5000, good * 5000, good, 9)
        self.assertEqual(self.assert_raises(TooMany, excess.turned, good * 5000, good, [], 1).limit, 5000)

    def test_prices_fault(self):
        self.assert_raises(NoMeasure, ratio.prices_fault, reader(), None, None, None, None)
        self.assert_raises(NoNumber, ratio.prices_fault, reader(), "told", None, None, (0, 1))
        self.assert_raises(NoNumber, ratio.prices_fault, reader(), "told", (1, 1), None, None)
        self.assertEqual(ratio.prices_fault(reader(), "told", (1, 1), None, (0, 1)), ("begin",))


class Arguments(Case):
    def test_arguments_stay_as_they_were_and_answers_the_same(self):
        paper = {standing: 3 for standing in useful(reader())}
        prices = {standing: (3, 1) for standing in useful(reader())}
        chosen = [[("s", "b"), ["skip"], ("take", "a")], (("t", "a"), ("pass", ["b", "a"], "s"), ["jump", "s"])]
        scripts = [[("keep", "a")], [("turn", "a", "b"), ("keep", "a")], [("keep", "b")]]
        calls = [
            (excess.paper_fault, [reader(), "told", paper, 3]),
            (ratio.prices_fault, [reader(), "told", (2, 1), prices, (3, 1)]),
            (excess.ring_fault, [reader(), "told", *scripts]), (excess.turned, [*scripts, 3]),
            (choices.best, [reader(), "told", chosen]),
        ]
        for function, arguments in calls:
            before = copy.deepcopy(arguments)
            answer = function(*arguments)
            self.assertEqual(arguments, before, function)
            self.assertEqual(function(*arguments), answer)

    def test_changed_answers_change_nothing(self):
        calls = [
            (excess.script_of, (reader().with_hold(2), "told")), (excess.turned, ([("keep", "a")], [], [], 0)),
            (bursts.bursts, (reader(), "told", 3)), (bursts.burst_script, (reader(), "told", 3)),
            (choices.best, (reader(), "told", [(("s", "b"), ("skip",), ("skip",))])),
        ]
        for function, arguments in calls:
            answer = function(*arguments)
            before = list(answer)
            answer.append(None)
            answer.reverse()
            self.assertEqual(function(*arguments), before, function)
        for function, arguments in [(excess.paper, (reader().with_hold(2), "told")),
                                    (ratio.prices, (reader(), "told", (2, 1)))]:
            answer = function(*arguments)
            before = dict(answer)
            answer.clear()
            self.assertEqual(function(*arguments), before, function)
        for function in (excess.ring, ratio.tight):
            answer = function(reader(), "told")
            before = copy.deepcopy(answer)
            for script in answer:
                script.clear()
            self.assertEqual(function(reader(), "told"), before, function)

    def test_turned_returns_a_new_list(self):
        ahead = [("keep", "a")]
        found = excess.turned(ahead, [], [], 0)
        self.assertEqual(found, ahead)
        self.assertIsNot(found, ahead)

    def test_all_errors_are_errors_of_the_program(self):
        for value in odd_values():
            for function, more in MEASURED:
                for place in range(len(more)):
                    changed = list(more)
                    changed[place] = value
                    try:
                        function(reader(), "told", *changed)
                    except SlipError:
                        pass
