"""The names, arguments and places of definition that the interface lists."""

import inspect
import unittest

from slipstold import (bursts, choices, edits, errors, excess, far, live, machines, ratio, readers, readings, rows,
                       summaries, texts, web)

FUNCTIONS = {
    machines: {
        "behind": ["machine", "row"], "hopeful": ["machine"], "trimmed": ["machine"],
        "parted": ["one", "other"], "least_right": ["machine"],
    },
    edits: {
        "source": ["script"], "target": ["script"], "cost": ["script"],
        "fewest": ["machine", "row"], "script_for": ["machine", "row"],
    },
    readings: {
        "first": ["reader"], "configurations": ["reader"], "after": ["reader", "configuration", "token"],
        "at_end": ["reader", "configuration"], "told": ["reader", "row"], "mends": ["reader", "row"],
        "arrive": ["reader", "row"], "trail": ["reader", "row"], "mended": ["reader", "row"],
    },
    rows: {"alike": ["one", "other"], "late": ["reader"], "reachable": ["reader"]},
    web: {
        "begin": ["reader"], "steps": ["reader", "standing"], "ends": ["reader", "standing"],
        "follow": ["reader", "standing", "script"], "useful": ["reader"],
    },
    excess: {
        "excess": ["reader", "measure"], "script_of": ["reader", "measure"], "paper": ["reader", "measure"],
        "paper_fault": ["reader", "measure", "paper", "most"], "ring": ["reader", "measure"],
        "ring_fault": ["reader", "measure", "ahead", "turn", "behind"], "turned": ["ahead", "turn", "behind", "n"],
    },
    ratio: {
        "ratio": ["reader", "measure"], "constant": ["reader", "measure", "p"], "prices": ["reader", "measure", "p"],
        "prices_fault": ["reader", "measure", "p", "prices", "c"], "tight": ["reader", "measure"],
        "slip": ["reader", "measure"],
    },
    bursts: {
        "bursts": ["reader", "measure", "n"], "burst_script": ["reader", "measure", "n"],
        "per_edit": ["reader", "measure"],
    },
    choices: {"least_hold": ["reader", "measure", "p"], "best": ["reader", "measure", "choices"]},
    far: {
        "told_far": ["reader", "far"], "mends_far": ["reader", "far"], "arrive_far": ["reader", "far"],
        "fewest_far": ["machine", "far"], "told_place": ["reader", "far", "k"], "last_told": ["reader", "far"],
    },
    live: {"rehearse": ["reading", "action"]},
    texts: {
        "machine_text": ["machine"], "read_machine": ["text"], "reader_text": ["reader"], "read_reader": ["text"],
    },
}


def parameters(function):
    return list(inspect.signature(function).parameters)


class Interface(unittest.TestCase):
    def test_functions_are_defined_in_their_files_with_their_parameters(self):
        for module, functions in FUNCTIONS.items():
            for name, expected in functions.items():
                function = vars(module)[name]
                self.assertTrue(inspect.isfunction(function), name)
                self.assertEqual(function.__module__, module.__name__, name)
                self.assertEqual(parameters(function), expected, name)

    def test_machine_and_its_methods_are_defined_in_the_class_itself(self):
        self.assertEqual(machines.Machine.__module__, "slipstold.machines")
        self.assertEqual(parameters(machines.Machine), ["tokens", "start", "moves", "finals"])
        own = vars(machines.Machine)
        for name in ("tokens", "states", "finals", "moves"):
            self.assertTrue(inspect.isfunction(own[name]), name)
            self.assertEqual(parameters(own[name]), ["self"], name)
        self.assertIsInstance(own["start"], property)
        for name in ("__getitem__", "__contains__", "__eq__"):
            self.assertTrue(inspect.isfunction(own[name]), name)

    def test_reader_and_its_methods_are_defined_in_the_class_itself(self):
        self.assertEqual(readers.Reader.__module__, "slipstold.readers")
        expected = inspect.signature(readers.Reader).parameters
        self.assertEqual(list(expected), ["machine", "table", "hold"])
        self.assertEqual(expected["hold"].kind, inspect.Parameter.KEYWORD_ONLY)
        self.assertEqual(expected["hold"].default, 0)
        own = vars(readers.Reader)
        for name, more in (("table", []), ("with_hold", ["hold"]), ("with_action", ["state", "token", "action"])):
            self.assertTrue(inspect.isfunction(own[name]), name)
            self.assertEqual(parameters(own[name]), ["self"] + more, name)
        for name in ("machine", "hold"):
            self.assertIsInstance(own[name], property, name)
        for name in ("__getitem__", "__eq__"):
            self.assertTrue(inspect.isfunction(own[name]), name)

    def test_summary_and_its_methods_are_defined_in_the_class_itself(self):
        self.assertEqual(summaries.Summary.__module__, "slipstold.summaries")
        self.assertEqual(parameters(summaries.Summary), ["reader", "row"])
        own = vars(summaries.Summary)
        self.assertEqual(parameters(own["no_more_than"]), ["self", "other"])
        self.assertIsInstance(own["reader"], property)
        for name in ("__getitem__", "__add__", "__iadd__", "__mul__", "__rmul__", "__eq__"):
            self.assertTrue(inspect.isfunction(own[name]), name)

    def test_reading_and_its_methods_are_defined_in_the_class_itself(self):
        self.assertEqual(live.Reading.__module__, "slipstold.live")
        self.assertEqual(parameters(live.Reading), ["reader"])
        own = vars(live.Reading)
        for name, more in (("row", []), ("told", []), ("mends", []), ("arrived", []), ("drop_at", ["k"]),
                           ("feed", ["tokens"]), ("trial", ["tokens"])):
            self.assertTrue(inspect.isfunction(own[name]), name)
            self.assertEqual(parameters(own[name]), ["self"] + more, name)
        self.assertTrue(inspect.isgeneratorfunction(own["feed"]))
        self.assertIsInstance(own["reader"], property)
        for name in ("__iadd__", "__len__", "__getitem__", "__setitem__", "__enter__", "__exit__"):
            self.assertTrue(inspect.isfunction(own[name]), name)

    def test_arguments_of_the_last_modules_can_be_passed_by_their_names(self):
        machine = machines.Machine(["a"], "s", {}, ["s"])
        reader = readers.Reader(machine=machine, table={})
        row = ((), ("a",), 3, ())
        self.assertEqual(far.told_far(reader=reader, far=row), 3)
        self.assertEqual(far.mends_far(reader=reader, far=row), 3)
        self.assertEqual(far.arrive_far(reader=reader, far=row), ("s", (), 0))
        self.assertEqual(far.fewest_far(machine=machine, far=row), 3)
        self.assertEqual(far.told_place(reader=reader, far=row, k=1), 1)
        self.assertEqual(far.last_told(reader=reader, far=row), 2)
        summary = summaries.Summary(reader=reader, row=["a"])
        self.assertTrue(summary.no_more_than(other=summary))
        reading = live.Reading(reader=reader)
        self.assertEqual(list(reading.feed(tokens=["a"])), [(0, 1)])
        self.assertEqual(reading.trial(tokens=["a"]), [0, 1])
        self.assertEqual(live.rehearse(reading=reading, action=len), 1)
        self.assertEqual(reading.drop_at(k=0), "a")
        self.assertEqual(texts.read_machine(text=texts.machine_text(machine=machine)), machine)
        self.assertEqual(texts.read_reader(text=texts.reader_text(reader=reader)), reader)

    def test_arguments_of_readers_can_be_passed_by_their_names(self):
        machine = machines.Machine(["a"], "s", {}, ["s"])
        reader = readers.Reader(machine=machine, table={}, hold=1)
        here = readings.first(reader=reader)
        self.assertEqual(readings.configurations(reader=reader), [("s", (), 0), ("s", (), 1)])
        self.assertEqual(readings.after(reader=reader, configuration=here, token="a"), (("s", (), 1), 1, 1))
        self.assertEqual(readings.at_end(reader=reader, configuration=here), (0, 0))
        self.assertEqual(readings.told(reader=reader, row=["a"]), [0])
        self.assertEqual(readings.mends(reader=reader, row=["a"]), 1)
        self.assertEqual(readings.arrive(reader=reader, row=["a"]), ("s", (), 1))
        self.assertEqual(readings.trail(reader=reader, row=[]), [(0, "s", "end")])
        self.assertEqual(readings.mended(reader=reader, row=["a"]), ([("drop", "a")], True))
        self.assertIsNone(rows.alike(one=reader, other=reader))
        self.assertIsNone(rows.late(reader=reader))
        self.assertEqual(len(rows.reachable(reader=reader)), 2)
        standing = web.begin(reader=reader)
        self.assertEqual(web.steps(reader=reader, standing=standing),
                         [(("drop", "a"), (("s", (), 1), "s"), 1, 1, 1)])
        self.assertEqual(web.ends(reader=reader, standing=standing), (0, 0))
        self.assertEqual(web.follow(reader=reader, standing=standing, script=()), (standing, 0, 0, 0))
        self.assertEqual(len(web.useful(reader=reader)), 2)

    def test_arguments_behind_a_measure_can_be_passed_by_their_names(self):
        machine = machines.Machine(["a"], "s", {}, ["s"])
        given = {"reader": readers.Reader(machine=machine, table={}), "measure": "told"}
        here = web.begin(reader=given["reader"])
        self.assertEqual(excess.excess(**given), 0)
        self.assertEqual(excess.script_of(**given), [])
        self.assertEqual(excess.paper(**given), {here: 0})
        self.assertIsNone(excess.paper_fault(**given, paper={here: 0}, most=0))
        self.assertIsNone(excess.ring(**given))
        drop = [("drop", "a")]
        self.assertEqual(excess.ring_fault(**given, ahead=[], turn=drop, behind=[]), "gain")
        self.assertEqual(excess.turned(ahead=[], turn=drop, behind=[], n=1), drop)
        self.assertEqual(ratio.ratio(**given), (1, 1))
        self.assertEqual(ratio.constant(**given, p=(1, 1)), (0, 1))
        self.assertEqual(ratio.prices(**given, p=(1, 1)), {here: (0, 1)})
        self.assertIsNone(ratio.prices_fault(**given, p=(1, 1), prices={here: (0, 1)}, c=(0, 1)))
        self.assertEqual(ratio.tight(**given), ([], drop, []))
        self.assertIsNone(ratio.slip(**given))
        self.assertEqual(bursts.bursts(**given, n=1), [0, 1])
        self.assertEqual(bursts.burst_script(**given, n=1), drop)
        self.assertEqual(bursts.per_edit(**given), (1, 1))
        self.assertEqual(choices.least_hold(**given, p=(1, 2)), 1)
        self.assertEqual(choices.best(**given, choices=[]), [()])

    def test_arguments_can_be_passed_by_their_names(self):
        machine = machines.Machine(tokens=["a"], start="s", moves={}, finals=["s"])
        self.assertEqual(machines.behind(machine=machine, row=()), "s")
        self.assertEqual(machines.hopeful(machine=machine), ["s"])
        self.assertEqual(machines.trimmed(machine=machine), machine)
        self.assertIsNone(machines.parted(one=machine, other=machine))
        self.assertEqual(machines.least_right(machine=machine), ())
        self.assertEqual(edits.source(script=()), ())
        self.assertEqual(edits.target(script=()), ())
        self.assertEqual(edits.cost(script=()), 0)
        self.assertEqual(edits.fewest(machine=machine, row=()), 0)
        self.assertEqual(edits.script_for(machine=machine, row=()), [])

    def test_errors_are_defined_in_their_file(self):
        for value in vars(errors).values():
            if inspect.isclass(value):
                self.assertEqual(value.__module__, "slipstold.errors")
