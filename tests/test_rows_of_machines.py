"""Point 7: rows, states on the way to a final state, and least rows."""

import unittest

from slipstold.errors import NoRow, Unlike
from slipstold.machines import Machine, behind, hopeful, least_right, parted, trimmed
from tests.samples import STATES, ab, all_rows, odd_values, plain_behind, plain_right, random_machines

MOVES = {("s", "a"): "t", ("t", "b"): "s"}


def plain_hopeful(parts):
    """The hopeful states, found by walking all rows that are long enough."""
    tokens, start, moves, finals = parts
    rows = list(all_rows(tokens, len(STATES) - 1))
    reached = {plain_behind(parts, row) for row in rows} - {None}
    return sorted(state for state in reached
                  if any(plain_behind((tokens, state, moves, finals), row) in finals for row in rows))


def by_tokens(machines):
    """The machines in an order in which most neighbours have the same tokens."""
    return sorted(machines, key=lambda pair: pair[1].tokens())


class Behind(unittest.TestCase):
    def test_ordinary_rows(self):
        machine = ab()
        self.assertEqual(behind(machine, ("a", "b")), "s")
        self.assertEqual(behind(machine, ["a"]), "t")
        self.assertIsNone(behind(machine, ("b",)))
        self.assertIsNone(behind(machine, ["a", "a", "b"]))
        self.assertEqual(behind(machine, ()), "s")
        self.assertEqual(behind(machine, []), "s")

    def test_machines_by_chance(self):
        for parts, machine in random_machines(4, 40):
            for row in all_rows(parts[0], 4):
                self.assertEqual(behind(machine, row), plain_behind(parts, row))

    def assert_no_row(self, row, place, machine=None):
        with self.assertRaises(NoRow) as caught:
            behind(machine or ab(), row)
        self.assertEqual(caught.exception.place, place)

    def test_what_is_no_list_or_tuple(self):
        values = [value for value in odd_values() if not isinstance(value, (list, tuple))]
        for value in values + ["ab", "a", {"a": 1}, {}, set()]:
            self.assert_no_row(value, -1)

    def test_a_bad_item_at_any_place(self):
        for value in odd_values() + ["c", "s", "ab", ["a"], ("a",)]:
            self.assert_no_row([value], 0)
            self.assert_no_row((value,), 0)
            self.assert_no_row(["a", "b", value, "a"], 2)
            self.assert_no_row(("a", "b", "a", value), 3)
        for place in (0, 1, 999, 1998, 1999):
            self.assert_no_row(["a"] * place + ["c"] + ["a"] * (1999 - place), place)

    def test_the_first_bad_item_counts(self):
        self.assert_no_row(["a", None, "c"], 1)
        self.assert_no_row(["b", "b", "c", None], 2)

    def test_a_bad_item_behind_a_token_without_a_move(self):
        self.assert_no_row(("b", "b", "c"), 2)

    def test_lengths(self):
        self.assertEqual(behind(ab(), ["a", "b"] * 1000), "s")
        self.assertEqual(behind(ab(), ("a", "b") * 1000), "s")
        self.assert_no_row(["a", "b"] * 1000 + ["a"], -1)
        self.assert_no_row(("a", "b") * 1000 + ("a",), -1)
        self.assert_no_row([None] * 2001, -1)
        self.assert_no_row([None] * 2000, 0)

    def test_the_tokens_are_those_of_the_machine(self):
        machine = Machine(["x", "abcdefgh"], "s", {("s", "x"): "s"}, ["s"])
        self.assertEqual(behind(machine, ["x", "x"]), "s")
        self.assertIsNone(behind(machine, ["abcdefgh"]))
        self.assert_no_row(["x", "a"], 1, machine)

    def test_the_row_stays_as_it_was(self):
        row = ["a", "b", "c"]
        self.assert_no_row(row, 2)
        self.assertEqual(row, ["a", "b", "c"])
        row = ["a", "b", "a"]
        self.assertEqual(behind(ab(), row), "t")
        self.assertEqual(row, ["a", "b", "a"])

    def test_a_changed_row_changes_no_later_answer(self):
        machine, row = ab(), ["a", "b", "a"]
        behind(machine, row)
        row.clear()
        self.assertEqual(behind(machine, row), "s")
        self.assertEqual(behind(machine, ["a", "b", "a"]), "t")


class Hopeful(unittest.TestCase):
    def test_all_states(self):
        self.assertEqual(hopeful(ab()), ["s", "t"])

    def test_states_that_cannot_be_reached(self):
        machine = Machine(["a", "b"], "s", {**MOVES, ("u", "a"): "s", ("v", "a"): "v"}, ["s", "w"])
        self.assertEqual(hopeful(machine), ["s", "t"])

    def test_states_that_lead_to_no_final_state(self):
        moves = {**MOVES, ("s", "b"): "u", ("u", "a"): "v", ("v", "b"): "u"}
        self.assertEqual(hopeful(Machine(["a", "b"], "s", moves, ["s"])), ["s", "t"])
        self.assertEqual(hopeful(Machine(["a", "b"], "s", moves, ["v"])), ["s", "t", "u", "v"])

    def test_a_start_alone(self):
        self.assertEqual(hopeful(Machine(["a"], "s", {("s", "a"): "t"}, ["s"])), ["s"])
        self.assertEqual(hopeful(Machine(["a"], "s", {}, ["s", "t"])), ["s"])

    def test_a_final_state_without_moves(self):
        self.assertEqual(hopeful(Machine(["a"], "s", {("s", "a"): "t"}, ["t"])), ["s", "t"])

    def test_the_list_is_sorted(self):
        machine = Machine(["a"], "z", {("z", "a"): "y", ("y", "a"): "x", ("x", "a"): "w"}, ["w"])
        self.assertEqual(hopeful(machine), ["w", "x", "y", "z"])

    def test_machines_by_chance(self):
        for parts, machine in random_machines(5, 120, most_tokens=3):
            found = hopeful(machine)
            self.assertIs(type(found), list)
            self.assertEqual(found, plain_hopeful(parts))
            self.assertIn(parts[1], found)

    def test_a_changed_answer_changes_nothing(self):
        machine = ab()
        hopeful(machine).clear()
        self.assertEqual(hopeful(machine), ["s", "t"])


class Trimmed(unittest.TestCase):
    def test_nothing_to_trim(self):
        self.assertEqual(trimmed(ab()), ab())

    def test_tokens_and_start_stay(self):
        machine = Machine(["c", "a"], "s", {("s", "a"): "t", ("u", "c"): "s"}, ["s", "u"])
        self.assertEqual(trimmed(machine), Machine(["a", "c"], "s", {}, ["s"]))

    def test_moves_from_and_to_other_states_go(self):
        moves = {**MOVES, ("s", "b"): "u", ("u", "a"): "u", ("v", "a"): "s", ("t", "a"): "u"}
        machine = Machine(["a", "b"], "s", moves, ["s", "v", "w"])
        self.assertEqual(trimmed(machine), ab())
        self.assertEqual(machine, Machine(["a", "b"], "s", moves, ["s", "v", "w"]))

    def test_machines_by_chance(self):
        for parts, machine in random_machines(6, 120, most_tokens=3):
            tokens, start, moves, finals = parts
            states = plain_hopeful(parts)
            kept = {pair: ahead for pair, ahead in moves.items() if pair[0] in states and ahead in states}
            found = trimmed(machine)
            self.assertEqual(found, Machine(tokens, start, kept, [state for state in finals if state in states]))
            self.assertIsNone(parted(machine, found))
            self.assertEqual(found.states(), states)


class Parted(unittest.TestCase):
    def test_worked_example(self):
        other = Machine(("b", "a"), "s", {("s", "a"): "t", ("t", "b"): "s"}, ("s", "t"))
        self.assertEqual(parted(ab(), other), ("a",))
        self.assertEqual(parted(other, ab()), ("a",))

    def test_equal_machines(self):
        machine = ab()
        self.assertIsNone(parted(machine, machine))
        self.assertIsNone(parted(machine, ab()))

    def test_other_states_with_the_same_right_rows(self):
        twice = {("s", "a"): "t", ("t", "b"): "u", ("u", "a"): "v", ("v", "b"): "s", ("t", "a"): "dead"}
        self.assertIsNone(parted(ab(), Machine(["a", "b"], "s", twice, ["s", "u"])))
        self.assertEqual(parted(ab(), Machine(["a", "b"], "s", twice, ["s"])), ("a", "b"))

    def test_the_empty_row(self):
        one = Machine(["a"], "s", {("s", "a"): "t"}, ["s", "t"])
        other = Machine(["a"], "s", {("s", "a"): "t"}, ["t"])
        self.assertEqual(parted(one, other), ())

    def test_machines_whose_tokens_differ(self):
        for tokens in (["a"], ["a", "b", "c"], ["a", "c"]):
            other = Machine(tokens, "s", {}, ["s"])
            for one, two in ((ab(), other), (other, ab())):
                with self.assertRaises(Unlike):
                    parted(one, two)

    def test_the_first_of_several_least_rows(self):
        one = Machine(["a", "b"], "s", {("s", "b"): "t", ("t", "a"): "u", ("s", "a"): "v", ("v", "b"): "u"}, ["u"])
        other = Machine(["b", "a"], "s", {("s", "a"): "t", ("t", "a"): "t", ("t", "b"): "t"}, ["s"])
        self.assertEqual(parted(one, other), ())
        none = Machine(["b", "a"], "s", {("s", "a"): "t", ("t", "a"): "u", ("u", "a"): "v"}, ["v"])
        self.assertEqual(parted(one, none), ("a", "b"))
        self.assertEqual(parted(none, one), ("a", "b"))

    def test_a_shorter_row_comes_before_a_lesser_one(self):
        one = Machine(["a", "b"], "s", {("s", "a"): "t", ("t", "a"): "u", ("s", "b"): "u"}, ["u"])
        other = Machine(["a", "b"], "s", {("s", "a"): "t", ("t", "b"): "u"}, ["u"])
        self.assertEqual(parted(one, other), ("b",))

    def test_machines_by_chance(self):
        pairs = by_tokens(random_machines(7, 400, most_tokens=2, most_states=2))
        found_none = found_row = 0
        for (one_parts, one), (other_parts, other) in zip(pairs, pairs[1:]):
            if one.tokens() != other.tokens():
                with self.assertRaises(Unlike):
                    parted(one, other)
                continue
            # Two machines with two states and a state of no move each are in at most 9 pairs of states.
            least = next((row for row in all_rows(one.tokens(), 8)
                          if plain_right(one_parts, row) != plain_right(other_parts, row)), None)
            self.assertEqual(parted(one, other), least)
            found_none += least is None
            found_row += least is not None
        self.assertGreater(found_none, 5)
        self.assertGreater(found_row, 50)

    def test_larger_machines_by_chance(self):
        pairs = by_tokens(random_machines(8, 150))
        for (one_parts, one), (other_parts, other) in zip(pairs, pairs[1:]):
            if one.tokens() == other.tokens():
                least = parted(one, other)
                longest = 6 if least is None else len(least)
                for row in all_rows(one.tokens(), min(longest, 6)):
                    if row != least and (least is None or (len(row), row) < (len(least), least)):
                        self.assertEqual(plain_right(one_parts, row), plain_right(other_parts, row))
                if least is not None:
                    self.assertIs(type(least), tuple)
                    self.assertNotEqual(plain_right(one_parts, least), plain_right(other_parts, least))


class LeastRight(unittest.TestCase):
    def test_worked_example(self):
        machine = Machine(["a", "b"], "s", {("s", "b"): "t", ("t", "a"): "u"}, ["u"])
        self.assertEqual(least_right(machine), ("b", "a"))

    def test_the_empty_row(self):
        self.assertEqual(least_right(ab()), ())

    def test_the_first_of_several_least_rows(self):
        moves = {("s", "b"): "t", ("t", "a"): "u", ("s", "a"): "v", ("v", "b"): "u", ("v", "a"): "s"}
        self.assertEqual(least_right(Machine(["b", "a"], "s", moves, ["u"])), ("a", "b"))

    def test_a_shorter_row_comes_before_a_lesser_one(self):
        moves = {("s", "a"): "t", ("t", "a"): "u", ("s", "b"): "u"}
        self.assertEqual(least_right(Machine(["a", "b"], "s", moves, ["u"])), ("b",))

    def test_machines_by_chance(self):
        for parts, machine in random_machines(9, 150):
            least = next(row for row in all_rows(parts[0], 5) if plain_right(parts, row))
            self.assertEqual(least_right(machine), least)
            self.assertIs(type(least_right(machine)), tuple)
