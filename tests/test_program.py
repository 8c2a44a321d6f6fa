"""What holds over the whole program: rows, errors, arguments that stay as they were, and answers that are new."""

import copy
import unittest

from slipstold import errors
from slipstold.bursts import burst_script, bursts, per_edit
from slipstold.choices import best, least_hold
from slipstold.edits import cost, fewest, script_for, source, target
from slipstold.excess import excess, paper, paper_fault, ring, ring_fault, script_of, turned
from slipstold.far import arrive_far, fewest_far, last_told, mends_far, told_far, told_place
from slipstold.live import Reading, rehearse
from slipstold.machines import Machine, behind, hopeful, least_right, parted, trimmed
from slipstold.ratio import constant, prices, prices_fault, ratio, slip, tight
from slipstold.readers import Reader
from slipstold.readings import after, arrive, at_end, configurations, first, mended, mends, told, trail
from slipstold.rows import alike, late, reachable
from slipstold.summaries import Summary
from slipstold.texts import machine_text, read_machine, read_reader, reader_text
from slipstold.web import begin, ends, follow, steps, useful
from tests.samples import ab, long_reader, nested, odd_values, parts_of_201


def reader(hold=0):
    return Reader(ab(), {("s", "b"): ("pass", ["a"], "t")}, hold=hold)


# All functions with a parameter row, as functions of the row alone.
ROW_FUNCTIONS = [
    lambda row: behind(ab(), row), lambda row: fewest(ab(), row), lambda row: script_for(ab(), row),
    lambda row: told(reader(), row), lambda row: mends(reader(), row), lambda row: arrive(reader(), row),
    lambda row: trail(reader(), row), lambda row: mended(reader(), row), lambda row: Summary(reader(), row),
]


class Rows(unittest.TestCase):
    def assert_no_row(self, place, row):
        for function in ROW_FUNCTIONS:
            with self.assertRaises(errors.NoRow) as caught:
                function(row)
            self.assertEqual(caught.exception.place, place)

    def test_lengths(self):
        for kind in (list, tuple):
            for function in ROW_FUNCTIONS:
                function(kind(("a", "b") * 1000))
                function(kind())
            self.assert_no_row(-1, kind(("a", "b") * 1000 + ("a",)))
            self.assert_no_row(-1, kind((None,) * 2001))
            self.assert_no_row(1999, kind(("a",) * 1999 + ("c",)))

    def test_values_of_every_kind(self):
        for value in odd_values() + ["ab", b"ab", {"a": 1}, {"a"}, range(2), nested(dict, 90)]:
            if not isinstance(value, (list, tuple)):
                self.assert_no_row(-1, value)
            self.assert_no_row(0, [value])
            self.assert_no_row(2, ("a", "b", value, "c"))


def good_calls():
    """Calls with good arguments, each a function and new arguments."""
    base, pair = reader(), ("s", "b")
    plain_reader = Reader(ab(), {})
    loop = tight(plain_reader, "told")
    return [
        (Machine, [["a", "b"], "s", {("s", "a"): "t", ("t", "b"): "s"}, ["s", "t"]]),
        (behind, [ab(), ["a", "b"]]), (hopeful, [ab()]), (trimmed, [ab()]), (parted, [ab(), ab()]), (least_right, [ab()]),
        (source, [[("keep", "a"), ("put", "b")]]), (target, [[("keep", "a"), ("put", "b")]]), (cost, [[("put", "b")]]),
        (fewest, [ab(), ["b", "b"]]), (script_for, [ab(), ["b", "b"]]),
        (Reader, [ab(), {pair: ["pass", ["a"], "t"], ("t", "a"): ["put", "b"]}]),
        (base.with_hold, [2]), (base.with_action, ["t", "a", ["pass", ["b"], "s"]]),
        (first, [base]), (configurations, [base]), (after, [base, first(base), "a"]), (at_end, [base, first(base)]),
        (told, [base, ["b", "a"]]), (mends, [base, ["b", "a"]]), (arrive, [base, ["b", "a"]]), (trail, [base, ["b", "a"]]),
        (mended, [base, ["b", "a"]]), (alike, [base, plain_reader]), (late, [base]), (reachable, [base]),
        (begin, [base]), (steps, [base, begin(base)]), (ends, [base, begin(base)]),
        (follow, [base, begin(base), [("keep", "a")]]), (useful, [base]),
        (excess, [base, "told"]), (script_of, [base.with_hold(3), "told"]), (paper, [plain_reader.with_hold(2), "told"]),
        (paper_fault, [base, "told", dict.fromkeys(useful(base), 1), 2]), (ring, [plain_reader, "told"]),
        (ring_fault, [plain_reader, "told", *loop]), (turned, [*loop, 2]),
        (ratio, [base, "told"]), (constant, [plain_reader, "told", (5, 2)]), (prices, [plain_reader, "told", (5, 2)]),
        (prices_fault, [plain_reader, "told", (5, 2), dict.fromkeys(useful(plain_reader), (1, 2)), (1, 2)]),
        (tight, [plain_reader, "told"]), (slip, [base, "mends"]),
        (bursts, [plain_reader, "told", 3]), (burst_script, [plain_reader, "told", 3]), (per_edit, [plain_reader, "told"]),
        (least_hold, [plain_reader, "told", (1, 1)]),
        (best, [plain_reader, "told", [[pair, ["skip"], ["pass", ["a"], "t"]]]]),
        (told_far, [base, [["b"], ["a", "b"], 10 ** 30, ["a"]]]), (mends_far, [base, [["b"], ["a", "b"], 10 ** 30, ["a"]]]),
        (arrive_far, [base, [["b"], ["a", "b"], 10 ** 30, ["a"]]]), (fewest_far, [ab(), [["b"], ["a"], 10 ** 30, ["a"]]]),
        (told_place, [base, [["b"], ["a", "b"], 10 ** 30, ["a"]], 0]), (last_told, [base, [["b"], ["a"], 10 ** 30, []]]),
        (Summary, [base, ["a", "b"]]), (Reading(base).trial, [["a", "b"]]),
        (machine_text, [ab()]), (read_machine, [machine_text(ab())]), (reader_text, [base]),
        (read_reader, [reader_text(base)]),
    ]


def parts_of(value):
    """All lists and dicts within an answer."""
    if isinstance(value, (list, tuple)):
        return ([value] if isinstance(value, list) else []) + [part for item in value for part in parts_of(item)]
    return [value] if isinstance(value, dict) else []


def spoil(value):
    """Changes all lists and dicts within a value."""
    for part in parts_of(value):
        part.clear()


class Values(unittest.TestCase):
    def test_arguments_stay_as_they_were(self):
        for function, arguments in good_calls():
            before = copy.deepcopy(arguments)
            function(*arguments)
            self.assertEqual(arguments, before, function)

    def test_a_changed_answer_changes_no_later_one(self):
        for function, arguments in good_calls():
            answer = function(*arguments)
            expected = copy.deepcopy(answer)
            spoil(answer)
            self.assertEqual(function(*arguments), expected, function)
            again = function(*arguments)
            for part in parts_of(again):
                for other in parts_of(answer):
                    self.assertIsNot(part, other, function)

    def test_an_answer_does_not_hold_an_argument(self):
        for function, arguments in good_calls():
            answer = function(*arguments)
            expected = copy.deepcopy(answer)
            given = [part for argument in arguments for part in parts_of(argument)]
            for part in parts_of(answer):
                self.assertFalse([one for one in given if one is part], function)
            for argument in arguments:
                spoil(argument)
            self.assertEqual(answer, expected, function)

    def test_objects_hold_no_argument(self):
        tokens, moves, finals = ["b", "a"], {("s", "a"): "t", ("t", "b"): "s"}, ["s"]
        machine = Machine(tokens, "s", moves, finals)
        spoil([tokens, moves, finals])
        self.assertEqual(machine, ab())
        table = {("s", "b"): ["pass", ["a"], "t"]}
        one = Reader(machine, table)
        spoil(list(table.values()))
        spoil(table)
        self.assertEqual(one, reader())
        for answer in (machine.tokens(), machine.states(), machine.finals(), machine.moves(), one.table()):
            spoil(answer)
        self.assertEqual(one, reader())


def sixteen_calls():
    """A call for each error, with the attributes of the error."""
    big = long_reader(*parts_of_201())
    base = Reader(ab(), {})
    reading = Reading(base)
    return {
        "BadMachine": (lambda: Machine((), "s", {}, ("s",)), {"part": "tokens"}),
        "BadReader": (lambda: Reader(ab(), {}, hold=4), {"part": "hold"}),
        "NoFar": (lambda: told_far(base, ((), (), -1, ())), {"part": "n"}),
        "NoRow": (lambda: told(base, ("a", "x")), {"place": 1}),
        "BadScript": (lambda: cost([("keep", "a"), ("keep",)]), {"place": 1}),
        "NoChoice": (lambda: best(base, "told", [None]), {"place": 0}),
        "NoPlace": (lambda: reading[0], {"place": 0}),
        "BadRing": (lambda: Reader(ab(), {("s", "b"): ("pass", ("b",), "s")}), {"state": "s", "token": "b"}),
        "TooMany": (lambda: useful(big), {"limit": 200}),
        "NoText": (lambda: read_machine("tokens a"), {"line": 2}),
        "Unlike": (lambda: parted(ab(), Machine(("a",), "s", {}, ("s",))), {}),
        "NoConfiguration": (lambda: at_end(base, ("s", (), 1)), {}),
        "NoMeasure": (lambda: excess(base, "cost"), {}),
        "NoStanding": (lambda: steps(base, ("s", "s")), {}),
        "NoNumber": (lambda: bursts(base, "told", 9), {}),
        "TooLow": (lambda: constant(base, "told", (1, 1)), {}),
    }


class Errors(unittest.TestCase):
    def test_one_call_for_each(self):
        calls = sixteen_calls()
        self.assertEqual(len(calls), 16)
        for name, (call, attributes) in calls.items():
            kind = vars(errors)[name]
            for base in (kind, errors.SlipError, ValueError):
                with self.assertRaises(base) as caught:
                    call()
                self.assertIs(type(caught.exception), kind)
                self.assertEqual(vars(caught.exception), attributes)

    def test_no_error_has_another_one_below_it_but_the_base(self):
        kinds = [vars(errors)[name] for name in sixteen_calls()]
        for kind in kinds:
            self.assertTrue(issubclass(kind, errors.SlipError) and issubclass(kind, ValueError))
            self.assertEqual([other for other in kinds if issubclass(other, kind)], [kind])

    def test_odd_arguments_raise_errors_of_the_program_alone(self):
        objects = (Machine, Reader, Reading, Summary)
        for value in odd_values() + [Reading(reader()), Summary(reader(), ()), [Summary(reader(), ())]]:
            for function, arguments in good_calls():
                for place, argument in enumerate(arguments):
                    if isinstance(argument, objects):
                        continue
                    changed = list(arguments)
                    changed[place] = value
                    try:
                        function(*changed)
                    except errors.SlipError:
                        pass

    def test_odd_texts(self):
        for value in odd_values():
            for function in (read_machine, read_reader):
                with self.assertRaises(errors.NoText):
                    function(value)


class Blocks(unittest.TestCase):
    def test_the_parts_work_together(self):
        base = read_reader(reader_text(reader(hold=2)))
        reading = Reading(base)
        for token in ("a", "b", "b", "a"):
            reading += token
        row = reading.row()
        self.assertEqual(reading.told(), told(base, row))
        self.assertEqual(Summary(base, row)[first(base)][0], reading.arrived())
        self.assertEqual(told_far(base, (row, (), 0, ())), len(reading.told()))
        self.assertEqual(rehearse(reading, lambda given: given.trial(["b"])), told(base, row + ("b",)))
