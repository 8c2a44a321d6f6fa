"""The names, arguments and places of definition that the interface lists."""

import inspect
import unittest

from slipstold import edits, errors, machines

FUNCTIONS = {
    machines: {
        "behind": ["machine", "row"], "hopeful": ["machine"], "trimmed": ["machine"],
        "parted": ["one", "other"], "least_right": ["machine"],
    },
    edits: {
        "source": ["script"], "target": ["script"], "cost": ["script"],
        "fewest": ["machine", "row"], "script_for": ["machine", "row"],
    },
}


def parameters(function):
    return list(inspect.signature(function).parameters)


class Interface(unittest.TestCase):
    def test_functions_are_defined_in_their_files_with_their_parameters(self):
        for module, functions in FUNCTIONS.items():
            for name, expected in functions.items():
                function = vars(module)[name]
                self.assertTrue(inspect.isfunction(function), name)
                self.assertEqual(function.__module__, module.__name__, name)
                self.assertEqual(parameters(function), expected, name)

    def test_machine_and_its_methods_are_defined_in_the_class_itself(self):
        self.assertEqual(machines.Machine.__module__, "slipstold.machines")
        self.assertEqual(parameters(machines.Machine), ["tokens", "start", "moves", "finals"])
        own = vars(machines.Machine)
        for name in ("tokens", "states", "finals", "moves"):
            self.assertTrue(inspect.isfunction(own[name]), name)
            self.assertEqual(parameters(own[name]), ["self"], name)
        self.assertIsInstance(own["start"], property)
        for name in ("__getitem__", "__contains__", "__eq__"):
            self.assertTrue(inspect.isfunction(own[name]), name)

    def test_arguments_can_be_passed_by_their_names(self):
        machine = machines.Machine(tokens=["a"], start="s", moves={}, finals=["s"])
        self.assertEqual(machines.behind(machine=machine, row=()), "s")
        self.assertEqual(machines.hopeful(machine=machine), ["s"])
        self.assertEqual(machines.trimmed(machine=machine), machine)
        self.assertIsNone(machines.parted(one=machine, other=machine))
        self.assertEqual(machines.least_right(machine=machine), ())
        self.assertEqual(edits.source(script=()), ())
        self.assertEqual(edits.target(script=()), ())
        self.assertEqual(edits.cost(script=()), 0)
        self.assertEqual(edits.fewest(machine=machine, row=()), 0)
        self.assertEqual(edits.script_for(machine=machine, row=()), [])

    def test_errors_are_defined_in_their_file(self):
        for value in vars(errors).values():
            if inspect.isclass(value):
                self.assertEqual(value.__module__, "slipstold.errors")
