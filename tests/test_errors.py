"""Point 4 and the part slipstold/errors.py of the interface."""

import inspect
import unittest

from slipstold import errors

ATTRIBUTES = {
    "BadMachine": ("part",), "BadReader": ("part",), "NoFar": ("part",),
    "NoRow": ("place",), "BadScript": ("place",), "NoChoice": ("place",), "NoPlace": ("place",),
    "BadRing": ("state", "token"), "TooMany": ("limit",), "NoText": ("line",),
    "Unlike": (), "NoConfiguration": (), "NoMeasure": (), "NoStanding": (), "NoNumber": (), "TooLow": (),
}


class Errors(unittest.TestCase):
    def test_all_classes_are_there_and_no_others(self):
        found = {name for name, value in vars(errors).items() if inspect.isclass(value)}
        self.assertEqual(found, set(ATTRIBUTES) | {"SlipError"})

    def test_each_is_a_direct_subclass_of_the_base_class(self):
        self.assertEqual(errors.SlipError.__bases__, (ValueError,))
        for name in ATTRIBUTES:
            self.assertEqual(vars(errors)[name].__bases__, (errors.SlipError,), name)

    def test_attributes_are_what_was_passed(self):
        samples = ("moves", "hold")
        for name, attributes in ATTRIBUTES.items():
            error = vars(errors)[name](*samples[:len(attributes)])
            self.assertEqual(vars(error), dict(zip(attributes, samples)), name)

    def test_numbers_are_kept_as_they_are(self):
        self.assertEqual(errors.NoRow(-1).place, -1)
        self.assertEqual(errors.BadScript(5000).place, 5000)
        self.assertEqual(errors.NoChoice(3).place, 3)
        self.assertEqual(errors.TooMany(200).limit, 200)
        self.assertEqual(errors.NoText(0).line, 0)

    def test_no_place_holds_the_argument_itself(self):
        argument = ["x"]
        self.assertIs(errors.NoPlace(argument).place, argument)

    def test_each_can_be_shown(self):
        for name, attributes in ATTRIBUTES.items():
            self.assertIsInstance(str(vars(errors)[name](*attributes)), str)

    def test_each_is_caught_as_the_base_class_and_as_a_value_error(self):
        for name, attributes in ATTRIBUTES.items():
            for base in (errors.SlipError, ValueError):
                with self.assertRaises(base):
                    raise vars(errors)[name](*attributes)
