"""Points 8 and 9: scripts, and the fewest edits that make a row right."""

import copy
import random
import unittest

from slipstold.edits import cost, fewest, script_for, source, target
from slipstold.errors import BadScript, NoRow
from slipstold.machines import Machine, behind, least_right
from tests.samples import ab, all_rows, nested, odd_values, plain_right, random_machines

SCRIPT = [("keep", "a"), ("drop", "b"), ("put", "c"), ("turn", "a", "b")]


def rows_near(row, tokens):
    """All rows that one edit makes of a row."""
    for place in range(len(row) + 1):
        for token in tokens:
            yield row[:place] + (token,) + row[place:]
        if place < len(row):
            yield row[:place] + row[place + 1:]
            for token in tokens:
                yield row[:place] + (token,) + row[place + 1:]


def plain_fewest(parts, row):
    """The cost of a row, found by a plain search over all rows near by."""
    seen = {row}
    ring = [row]
    steps = 0
    while not any(plain_right(parts, near) for near in ring):
        ring = sorted({near for here in ring for near in rows_near(here, parts[0])} - seen)
        seen.update(ring)
        steps += 1
    return steps


class Scripts(unittest.TestCase):
    def test_worked_example(self):
        self.assertEqual(target([("keep", "a"), ("drop", "b"), ("put", "c"), ("turn", "a", "b")]), ("a", "c", "b"))

    def test_ordinary_script(self):
        for script in (SCRIPT, tuple(SCRIPT)):
            self.assertEqual(source(script), ("a", "b", "a"))
            self.assertEqual(target(script), ("a", "c", "b"))
            self.assertEqual(cost(script), 3)
            self.assertIs(type(source(script)), tuple)
            self.assertIs(type(target(script)), tuple)
            self.assertIs(type(cost(script)), int)

    def test_empty_script(self):
        for script in ([], ()):
            self.assertEqual(source(script), ())
            self.assertEqual(target(script), ())
            self.assertEqual(cost(script), 0)

    def test_each_edit_alone(self):
        for edit, before, behind_edit, price in (
                (("keep", "x"), ("x",), ("x",), 0), (("drop", "x"), ("x",), (), 1),
                (("put", "x"), (), ("x",), 1), (("turn", "x", "y"), ("x",), ("y",), 1)):
            self.assertEqual(source([edit]), before)
            self.assertEqual(target((edit,)), behind_edit)
            self.assertEqual(cost([edit]), price)

    def test_any_names_will_do(self):
        script = [("keep", "keep"), ("put", "turn"), ("turn", "abcdefgh", "z"), ("drop", "put")]
        self.assertEqual(source(script), ("keep", "abcdefgh", "put"))
        self.assertEqual(target(script), ("keep", "turn", "z"))
        self.assertEqual(cost(script), 3)

    def test_lengths(self):
        script = [("keep", "a"), ("turn", "a", "b")] * 2500
        for good in (script, tuple(script)):
            self.assertEqual(source(good), ("a",) * 5000)
            self.assertEqual(target(good), ("a", "b") * 2500)
            self.assertEqual(cost(good), 2500)
        self.assert_bad(script + [("keep", "a")], -1)
        self.assert_bad(tuple(script) + (("keep", "a"),), -1)
        self.assert_bad([None] * 5001, -1)
        self.assert_bad([None] * 5000, 0)

    def assert_bad(self, script, place):
        for function in (source, target, cost):
            with self.assertRaises(BadScript) as caught:
                function(script)
            self.assertEqual(caught.exception.place, place, script)

    def test_what_is_no_list_or_tuple(self):
        values = [value for value in odd_values() if not isinstance(value, (list, tuple))]
        for value in values + ["", "keep", {}, {("keep", "a"): 1}, {("keep", "a")}]:
            self.assert_bad(value, -1)

    def test_odd_values_in_the_place_of_an_edit(self):
        for value in odd_values():
            self.assert_bad([value], 0)
            self.assert_bad((("keep", "a"), ("put", "b"), value, None), 2)

    def test_a_list_in_the_place_of_an_edits_tuple(self):
        for edit in SCRIPT:
            self.assert_bad([list(edit)], 0)
            self.assert_bad(SCRIPT + [list(edit)], 4)
        # A script is a list of edits, never an edit alone.
        self.assert_bad(("keep", "a"), 0)

    def test_a_turn_of_a_token_to_itself(self):
        self.assert_bad([("turn", "a", "a")], 0)
        self.assert_bad([("turn", "a", "b"), ("turn", "b", "b")], 1)
        self.assertEqual(cost([("turn", "a", "aa")]), 1)

    def test_wrong_numbers_of_words(self):
        for edit in ((), ("keep",), ("turn",), ("turn", "a"), ("keep", "a", "b"), ("drop", "a", "b"),
                     ("put", "a", "b"), ("turn", "a", "b", "c"), ("keep", "a", "a"), ("keep", "a", None)):
            self.assert_bad([("keep", "a"), edit], 1)

    def test_wrong_words(self):
        for word in odd_values() + ["take", "skip", "Keep", "keep ", "kee", b"keep", ("keep",), ["keep"], "a"]:
            self.assert_bad([(word, "a")], 0)
            self.assert_bad([(word, "a", "b")], 0)

    def test_wrong_names(self):
        for value in odd_values() + ["", "abcdefghi", "B", "a b", ["a"], ("a",), b"a"]:
            for word in ("keep", "drop", "put"):
                self.assert_bad([("put", "x"), (word, value)], 1)
            self.assert_bad([("turn", value, "a")], 0)
            self.assert_bad([("turn", "a", value)], 0)
            self.assert_bad([("turn", value, value)], 0)

    def test_deep_values(self):
        for kind in (list, tuple, dict):
            deep = nested(kind, 88)
            self.assert_bad([("keep", deep)], 0)
            self.assert_bad([(deep, "a")], 0)
            self.assert_bad([("keep", "a"), deep], 1)

    def test_the_script_stays_as_it_was(self):
        for script, good in ((list(SCRIPT), True), (SCRIPT + [["keep", "a"], ("turn", "a", "a")], False)):
            before = copy.deepcopy(script)
            if good:
                source(script), target(script), cost(script)
            else:
                self.assert_bad(script, 4)
            self.assertEqual(script, before)

    def test_a_changed_script_changes_no_answer(self):
        script = list(SCRIPT)
        before, behind_script = source(script), target(script)
        script.clear()
        self.assertEqual(before, ("a", "b", "a"))
        self.assertEqual(behind_script, ("a", "c", "b"))


class Fewest(unittest.TestCase):
    def assert_cost(self, machine, row, expected):
        self.assertEqual(fewest(machine, row), expected)
        self.assertIs(type(fewest(machine, row)), int)
        self.assert_script(machine, row)

    def assert_script(self, machine, row):
        script = script_for(machine, row)
        self.assertIs(type(script), list)
        self.assertLessEqual(len(script), 5000)
        self.assertEqual(source(script), tuple(row))
        self.assertIn(behind_target(machine, script), machine.finals())
        self.assertEqual(cost(script), fewest(machine, row))

    def test_worked_example(self):
        self.assertEqual(fewest(ab(), ("b", "b")), 1)

    def test_examples_of_point_9(self):
        self.assert_cost(ab(), ("b", "b"), 1)
        self.assert_cost(ab(), ("b",), 1)

    def test_right_rows_cost_nothing(self):
        for row in ((), [], ("a", "b"), ["a", "b"] * 20):
            self.assert_cost(ab(), row, 0)
            self.assertEqual(script_for(ab(), row), [("keep", token) for token in row])

    def test_the_empty_row_that_is_not_right(self):
        machine = Machine(["a", "b"], "s", {("s", "b"): "t", ("t", "a"): "u", ("u", "a"): "v"}, ["v"])
        self.assert_cost(machine, (), 3)
        self.assertEqual(script_for(machine, []), [("put", "b"), ("put", "a"), ("put", "a")])

    def test_each_edit_is_used_where_it_alone_will_do(self):
        self.assertEqual(script_for(Machine(["a"], "s", {}, ["s"]), ("a", "a")), [("drop", "a"), ("drop", "a")])
        self.assertEqual(script_for(Machine(["a", "b"], "s", {("s", "b"): "t"}, ["t"]), ("a",)), [("turn", "a", "b")])
        self.assertEqual(script_for(Machine(["a"], "s", {("s", "a"): "t"}, ["t"]), ()), [("put", "a")])

    def test_other_rows_of_ab(self):
        for row, expected in ((("a",), 1), (("a", "a"), 1), (("b", "a"), 2), (("b",) * 8, 4), (("a",) * 7, 4),
                              (("a", "b", "b", "a", "b"), 1), (("b", "a") * 10, 2), (("a", "a", "b", "b"), 2)):
            self.assert_cost(ab(), row, expected)
            self.assert_cost(ab(), list(row), expected)

    def test_states_of_no_hope_are_of_no_use(self):
        moves = {("s", "a"): "t", ("t", "b"): "s", ("s", "b"): "u", ("u", "b"): "u", ("v", "b"): "v"}
        machine = Machine(["a", "b"], "s", moves, ["s", "v"])
        self.assert_cost(machine, ("b", "b", "b", "b"), 2)

    def test_small_machines_against_a_plain_search(self):
        for parts, machine in random_machines(10, 60, most_tokens=2, most_states=4):
            for row in all_rows(parts[0], 3):
                self.assert_cost(machine, row, plain_fewest(parts, row))

    def test_three_tokens_against_a_plain_search(self):
        chance = random.Random(11)
        for parts, machine in random_machines(12, 40, most_tokens=3, most_states=3):
            for _ in range(6):
                row = tuple(chance.choice(parts[0]) for _ in range(chance.randint(3, 5)))
                self.assert_cost(machine, row, plain_fewest(parts, row))

    def test_larger_machines_and_rows(self):
        chance = random.Random(13)
        for parts, machine in random_machines(14, 60):
            row = [chance.choice(parts[0]) for _ in range(chance.randint(10, 60))]
            self.assert_script(machine, row)
            self.assertLessEqual(fewest(machine, row), len(row) + len(least_right(machine)))
            self.assertEqual(fewest(machine, row) == 0, row in machine)

    def test_rows_of_two_thousand_tokens(self):
        chance = random.Random(15)
        self.assert_cost(ab(), ("b",) * 2000, 1000)
        self.assert_cost(ab(), ["a", "b"] * 1000, 0)
        self.assert_cost(ab(), ("b", "a") * 1000, 2)
        for parts, machine in random_machines(16, 4):
            self.assert_script(machine, [chance.choice(parts[0]) for _ in range(2000)])

    def test_long_scripts(self):
        chain = {("s", "a"): "t", ("t", "a"): "u", ("u", "a"): "v", ("v", "a"): "w", ("w", "a"): "x"}
        self.assert_cost(Machine(["a", "b"], "s", chain, ["x"]), ("b",) * 2000, 2000)
        self.assert_cost(Machine(["a", "b"], "s", {**chain, ("x", "a"): "t"}, ["s"]), ("b",) * 2000, 2000)
        self.assert_cost(Machine(["a", "b"], "s", {**chain, ("x", "a"): "s"}, ["x"]), ("b",) * 1998, 1998)

    def assert_no_row(self, row, place):
        for function in (fewest, script_for):
            with self.assertRaises(NoRow) as caught:
                function(ab(), row)
            self.assertEqual(caught.exception.place, place)

    def test_what_is_no_row(self):
        for value in odd_values():
            if not isinstance(value, (list, tuple)):
                self.assert_no_row(value, -1)
            self.assert_no_row([value], 0)
            self.assert_no_row(("a", "b", value, "c"), 2)
        self.assert_no_row("ab", -1)
        self.assert_no_row(["a", "c"], 1)
        self.assert_no_row(["a"] * 2001, -1)
        self.assert_no_row(("a",) * 2001, -1)
        self.assert_no_row(["a"] * 1999 + ["c"], 1999)

    def test_arguments_stay_as_they_were(self):
        machine, row = ab(), ["b", "b", "a"]
        fewest(machine, row)
        script_for(machine, row)
        self.assertEqual(machine, ab())
        self.assertEqual(row, ["b", "b", "a"])

    def test_a_changed_answer_changes_nothing(self):
        machine, row = ab(), ["b", "b", "a"]
        script = script_for(machine, row)
        before = list(script)
        script.clear()
        row.clear()
        self.assertEqual(script_for(machine, ("b", "b", "a")), before)
        self.assertEqual(fewest(machine, row), 0)


def behind_target(machine, script):
    """The state behind a script's target, which may be longer than a row."""
    state = machine.start
    for token in target(script):
        state = machine[state, token]
    if len(target(script)) <= 2000:
        assert behind(machine, target(script)) == state
    return state
