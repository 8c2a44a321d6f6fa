"""Points 5 and 6: the parts of a machine and what it shows of them."""

import copy
import itertools
import unittest

from slipstold.errors import BadMachine, SlipError
from slipstold.machines import Machine
from tests.samples import STATES, ab, all_rows, nested, odd_values, plain_behind, plain_right, random_machines

MOVES = {("s", "a"): "t", ("t", "b"): "s"}
GOOD = {"tokens": ("a", "b"), "start": "s", "moves": MOVES, "finals": ("s",)}
WRONG = {"tokens": ("a", "a"), "start": "S", "moves": {("s", "c"): "t"}, "finals": ()}
ORDER = ("tokens", "start", "moves", "finals", "size")


def parts_with(**changes):
    return {**GOOD, **changes}


class BadParts(unittest.TestCase):
    def assert_bad(self, part, **changes):
        with self.assertRaises(BadMachine) as caught:
            Machine(**parts_with(**changes))
        self.assertEqual(caught.exception.part, part, changes)

    def assert_good(self, **changes):
        parts = parts_with(**changes)
        machine = Machine(**parts)
        self.assertEqual(machine.tokens(), sorted(parts["tokens"]))
        self.assertEqual(machine.finals(), sorted(parts["finals"]))
        self.assertEqual(machine.moves(), parts["moves"])
        self.assertEqual(machine.start, parts["start"])

    def test_worked_example(self):
        with self.assertRaises(BadMachine) as caught:
            Machine((), "s", {}, ("s",))
        self.assertEqual(caught.exception.part, "tokens")

    def test_odd_values_in_the_place_of_each_part(self):
        for value in odd_values():
            for part in GOOD:
                self.assert_bad(part, **{part: value})

    def test_names_are_no_lists(self):
        for name in ("a", "ab", "s"):
            for part in ("tokens", "moves", "finals"):
                self.assert_bad(part, **{part: name})
        for part in ("tokens", "finals"):
            self.assert_bad(part, **{part: {"a": "s", "s": "a"}})
            self.assert_bad(part, **{part: {"a", "s"}})
        self.assert_bad("moves", moves=[("s", "a", "t")])
        self.assert_bad("moves", moves=list(MOVES.items()))
        self.assert_bad("start", start=["s"])

    def test_odd_values_among_tokens(self):
        for value in odd_values():
            self.assert_bad("tokens", tokens=[value], moves={})
            self.assert_bad("tokens", tokens=["a", "b", value])
            self.assert_bad("tokens", tokens=(value, "a", "b"))

    def test_number_of_tokens(self):
        self.assert_bad("tokens", tokens=[], moves={})
        self.assert_good(tokens=["a"], moves={})
        self.assert_good(tokens=("d", "c", "b", "a"))
        self.assert_bad("tokens", tokens=["a", "b", "c", "d", "e"])
        self.assert_bad("tokens", tokens=["a", "b", "c", "d", "a"])

    def test_a_token_twice(self):
        self.assert_bad("tokens", tokens=["a", "b", "a"])
        self.assert_bad("tokens", tokens=("b", "b"))

    def test_lengths_of_names(self):
        for name in ("a", "z", "abcdefgh", "zzzzzzzz", "moves", "none"):
            self.assert_good(tokens=[name], moves={})
            self.assert_good(start=name, finals=[name], moves={})
            self.assert_good(moves={("s", "a"): name, (name, "b"): "s"})
        for name in ("", "abcdefghi", "a" * 10000, "A", "aB", "a b", " a", "a\n", "a_", "a1", "`", "{", "-"):
            self.assert_bad("tokens", tokens=[name], moves={})
            self.assert_bad("start", start=name)
            self.assert_bad("moves", moves={("s", "a"): name})
            self.assert_bad("moves", moves={(name, "a"): "s"})
            self.assert_bad("moves", moves={("s", name): "s"})
            self.assert_bad("finals", finals=["s", name])

    def test_keys_of_moves_that_are_no_pair(self):
        keys = [None, 1, True, "sa", "s", b"sa", (), ("s",), ("s", "a", "t"), ("s", "c"), ("a", "s"), ("s", None),
                (None, "a"), (1, "a"), ("s", 1), (("s",), "a"), ("s", ("a",)), frozenset(["s", "a"]), len, str, ...,
                nested(tuple, 90), (nested(tuple, 89), "a"), ("s", nested(tuple, 89)), range(2), b"a"]
        for key in keys:
            self.assert_bad("moves", moves={key: "t"})
            self.assert_bad("moves", moves={**MOVES, key: "t"})

    def test_odd_values_behind_a_move(self):
        for value in odd_values():
            self.assert_bad("moves", moves={("s", "a"): value})
            self.assert_bad("moves", moves={**MOVES, ("t", "a"): value})

    def test_no_moves(self):
        self.assert_good(moves={})

    def test_odd_values_among_finals(self):
        for value in odd_values():
            self.assert_bad("finals", finals=[value])
            self.assert_bad("finals", finals=["s", "t", value])

    def test_a_final_state_twice(self):
        self.assert_bad("finals", finals=("s", "s"))
        self.assert_bad("finals", finals=["s", "t", "s"])

    def test_number_of_finals(self):
        self.assert_bad("finals", finals=[])
        self.assert_good(finals=["s", "t", "u", "v", "w", "x"])
        self.assert_bad("finals", finals=["s", "t", "u", "v", "w", "x", "y"])

    def test_final_states_that_cannot_be_reached(self):
        self.assert_bad("finals", finals=["u"])
        self.assert_bad("finals", moves={}, finals=["t"])
        self.assert_bad("finals", moves={("t", "a"): "s", ("t", "b"): "u"}, finals=["t", "u"])
        self.assert_good(finals=["t"])
        self.assert_good(finals=["u", "t"])
        self.assert_good(moves={}, finals=["u", "s", "v"])

    def test_number_of_states(self):
        chain = {("s", "a"): "t", ("t", "a"): "u", ("u", "a"): "v", ("v", "a"): "w"}
        self.assert_good(moves={**chain, ("w", "a"): "x"})
        self.assert_bad("size", moves={**chain, ("w", "a"): "x", ("x", "a"): "y"})
        self.assert_bad("size", moves={**chain, ("w", "a"): "x", ("y", "a"): "s"})
        self.assert_bad("size", moves={**chain, ("w", "a"): "x"}, finals=["s", "y"])
        self.assert_good(moves={}, finals=["s", "t", "u", "v", "w", "x"])
        self.assert_bad("size", start="y", moves={("y", "a"): "s"}, finals=["s", "t", "u", "v", "w", "x"])

    def test_many_states_are_searched_before_they_are_counted(self):
        names = ["".join(letters) for letters in itertools.product("abcdefghij", repeat=4)]
        chain = {(here, "a"): ahead for here, ahead in zip(names, names[1:])}
        self.assert_bad("size", start=names[0], moves=chain, finals=[names[-1]])
        self.assert_bad("finals", start=names[1], moves=chain, finals=[names[0]])

    def test_the_first_of_several_bad_parts_counts(self):
        wrong = {**WRONG, "size": None}
        many_moves = {(here, "a"): here for here in ("s", "t", "u", "v", "w", "x", "y")}
        for many in range(1, 6):
            for chosen in itertools.combinations(ORDER, many):
                changes = {part: wrong[part] for part in chosen if part != "size"}
                if "size" in chosen:
                    changes["moves"] = {**many_moves, **(WRONG["moves"] if "moves" in chosen else {})}
                self.assert_bad(chosen[0], **changes)

    def test_finals_that_cannot_be_reached_count_before_the_size(self):
        many_moves = {(here, "a"): here for here in ("s", "t", "u", "v", "w", "x", "y")}
        self.assert_bad("size", moves=many_moves)
        self.assert_bad("finals", moves=many_moves, finals=["y"])
        self.assert_bad("start", start=None, moves=many_moves, finals=["y"])

    def test_arguments_of_a_bad_machine_stay_as_they_were(self):
        parts = parts_with(tokens=["b", "a"], moves=dict(MOVES), finals=["t", "x", "y"], start="x")
        parts["moves"]["u", "a"] = ["v"]
        before = copy.deepcopy(parts)
        with self.assertRaises(SlipError):
            Machine(**parts)
        self.assertEqual(parts, before)
        self.assertEqual(list(parts["moves"]), list(before["moves"]))


class Parts(unittest.TestCase):
    def test_lists_are_sorted(self):
        machine = Machine(["d", "b", "c", "a"], "t", {("t", "b"): "s", ("u", "a"): "z"}, ["z", "t", "b"])
        self.assertEqual(machine.tokens(), ["a", "b", "c", "d"])
        self.assertEqual(machine.states(), ["b", "s", "t", "u", "z"])
        self.assertEqual(machine.finals(), ["b", "t", "z"])
        self.assertEqual(machine.start, "t")
        self.assertEqual(machine.moves(), {("t", "b"): "s", ("u", "a"): "z"})

    def test_names_are_ordered_as_strings(self):
        machine = Machine(["b", "aa", "a", "ab"], "ba", {}, ["b", "ba", "a"])
        self.assertEqual(machine.tokens(), ["a", "aa", "ab", "b"])
        self.assertEqual(machine.states(), ["a", "b", "ba"])
        self.assertEqual(machine.finals(), ["a", "b", "ba"])

    def test_states_come_from_every_part(self):
        self.assertEqual(Machine(["a"], "s", {}, ["s"]).states(), ["s"])
        self.assertEqual(Machine(["a"], "s", {}, ["s", "q"]).states(), ["q", "s"])
        self.assertEqual(Machine(["a"], "s", {("r", "a"): "q"}, ["s"]).states(), ["q", "r", "s"])
        self.assertEqual(Machine(["a"], "s", {("s", "a"): "q"}, ["q"]).states(), ["q", "s"])

    def test_kinds_of_the_parts(self):
        for machine in (ab(), Machine(["a", "b"], "s", MOVES, ["s"])):
            self.assertIs(type(machine.tokens()), list)
            self.assertIs(type(machine.states()), list)
            self.assertIs(type(machine.finals()), list)
            self.assertIs(type(machine.moves()), dict)
            self.assertIs(type(machine.start), str)

    def test_machines_by_chance_show_their_parts(self):
        for parts, machine in random_machines(1, 60):
            tokens, start, moves, finals = parts
            self.assertEqual(machine.tokens(), sorted(tokens))
            self.assertEqual(machine.start, start)
            self.assertEqual(machine.moves(), moves)
            self.assertEqual(machine.finals(), sorted(finals))
            named = {start} | set(finals) | {state for state, _ in moves} | set(moves.values())
            self.assertEqual(machine.states(), sorted(named))

    def test_the_start_cannot_be_assigned(self):
        machine = ab()
        with self.assertRaises(AttributeError):
            machine.start = "t"
        self.assertEqual(machine.start, "s")

    def test_changed_arguments_change_nothing(self):
        tokens, moves, finals = ["b", "a"], dict(MOVES), ["s"]
        machine = Machine(tokens, "s", moves, finals)
        self.assertEqual((tokens, moves, finals), (["b", "a"], MOVES, ["s"]))
        tokens[0] = "c"
        moves["s", "b"] = "s"
        del moves["s", "a"]
        finals.append("t")
        self.assertEqual(machine, ab())
        self.assertEqual(machine["s", "a"], "t")
        self.assertIsNone(machine["s", "b"])
        self.assertNotIn(("b",), machine)
        self.assertIn(("a", "b"), machine)
        self.assertNotIn(("a",), machine)

    def test_changed_answers_change_nothing(self):
        machine = ab()
        machine.tokens().append("c")
        machine.states().clear()
        machine.finals().append("t")
        machine.moves()["s", "b"] = "s"
        machine.moves().clear()
        self.assertEqual(machine.tokens(), ["a", "b"])
        self.assertEqual(machine.states(), ["s", "t"])
        self.assertEqual(machine.finals(), ["s"])
        self.assertEqual(machine.moves(), MOVES)
        self.assertEqual(machine, ab())
        self.assertIn(["a", "b"], machine)

    def test_each_answer_is_a_new_one(self):
        machine = ab()
        for ask in (machine.tokens, machine.states, machine.finals, machine.moves):
            self.assertIsNot(ask(), ask())


class Move(unittest.TestCase):
    def test_worked_example(self):
        self.assertIsNone(ab()["s", "b"])

    def test_pairs_with_a_move(self):
        machine = ab()
        self.assertEqual(machine["s", "a"], "t")
        self.assertEqual(machine[("t", "b")], "s")

    def test_pairs_without_a_move(self):
        machine = ab()
        for pair in (("t", "a"), ("s", "c"), ("u", "a"), ("a", "s"), ("", ""), ("s", "A")):
            self.assertIsNone(machine[pair])

    def test_anything_else(self):
        machine = ab()
        for value in ("sa", "s", "a", ["s", "a"], (), ("s",), ("s", "a", "t"), ("s", "a", "a"), {"s": "a"},
                      [("s", "a")], (("s", "a"),), {("s", "a"): "t"}, slice("s", "a")):
            self.assertIsNone(machine[value])
        for value in odd_values():
            self.assertIsNone(machine[value])
            self.assertIsNone(machine[value, "a"])
            self.assertIsNone(machine["s", value])
            self.assertIsNone(machine[value, value])
            self.assertIsNone(machine["s", "a", value])

    def test_all_pairs_of_machines_by_chance(self):
        for parts, machine in random_machines(2, 40):
            for pair in itertools.product(STATES, "abcde"):
                self.assertEqual(machine[pair], parts[2].get(pair))


class Right(unittest.TestCase):
    def test_worked_example(self):
        self.assertIs(("a", "b") in ab(), True)

    def test_ordinary_rows(self):
        machine = ab()
        for row in ((), [], ("a", "b"), ["a", "b"], ("a", "b", "a", "b")):
            self.assertIn(row, machine)
        for row in (("a",), ["b"], ("b", "a"), ("a", "a"), ("a", "b", "b"), ("a", "b", "a")):
            self.assertNotIn(row, machine)

    def test_empty_row_at_a_start_that_is_not_final(self):
        machine = Machine(["a"], "s", {("s", "a"): "t"}, ["t"])
        self.assertNotIn((), machine)
        self.assertIn(("a",), machine)

    def test_what_is_no_row(self):
        machine = ab()
        for value in odd_values() + ["ab", "", {}, {"a": 1, "b": 2}, {"a", "b"}, ("a", "b", "c"), ["A"], [["a", "b"]]]:
            self.assertIs(value in machine, False)
        for value in odd_values():
            self.assertNotIn(["a", "b", value], machine)
            self.assertNotIn((value, "a", "b"), machine)

    def test_the_answer_consumes_nothing(self):
        waiting = iter(["a", "b"])
        self.assertNotIn(waiting, ab())
        self.assertEqual(list(waiting), ["a", "b"])

    def test_lengths(self):
        loop = Machine(["a"], "s", {("s", "a"): "s"}, ["s"])
        self.assertIn(["a"] * 2000, loop)
        self.assertIn(("a",) * 2000, loop)
        self.assertNotIn(["a"] * 2001, loop)
        self.assertNotIn(("a",) * 2001, loop)
        self.assertIn(("a", "b") * 1000, ab())
        self.assertNotIn(("a", "b") * 1001, ab())

    def test_machines_by_chance(self):
        for parts, machine in random_machines(3, 40):
            for row in all_rows(parts[0], 4):
                self.assertEqual(row in machine, plain_right(parts, row))
                self.assertEqual(list(row) in machine, plain_behind(parts, row) in machine.finals())

    def test_a_machine_cannot_be_iterated_over(self):
        with self.assertRaises(TypeError):
            list(ab())


class Equality(unittest.TestCase):
    def assert_equal_both_ways(self, one, other):
        self.assertIs(one == other, True)
        self.assertIs(other == one, True)
        self.assertIs(one != other, False)

    def assert_unequal_both_ways(self, one, other):
        self.assertIs(one == other, False)
        self.assertIs(other == one, False)
        self.assertIs(one != other, True)

    def test_orders_and_kinds_mean_nothing(self):
        moves = {("s", "a"): "t", ("t", "b"): "s"}
        turned = {("t", "b"): "s", ("s", "a"): "t"}
        one = Machine(("a", "b"), "s", moves, ("s", "t"))
        self.assert_equal_both_ways(one, one)
        self.assert_equal_both_ways(one, Machine(["b", "a"], "s", turned, ["t", "s"]))
        self.assert_equal_both_ways(one, Machine(("b", "a"), "s", turned, ["s", "t"]))

    def test_each_part_counts(self):
        one = Machine(("a", "b"), "s", MOVES, ("s",))
        for changes in ({"tokens": ("a", "b", "c")}, {"start": "t"}, {"finals": ("t",)}, {"finals": ("s", "t")},
                        {"finals": ("s", "u")}, {"moves": {**MOVES, ("t", "a"): "t"}}, {"moves": {("s", "a"): "t"}},
                        {"moves": {**MOVES, ("s", "a"): "s"}}, {"moves": {}}):
            self.assert_unequal_both_ways(one, Machine(**parts_with(**changes)))

    def test_machines_with_the_same_right_rows_may_differ(self):
        self.assert_unequal_both_ways(ab(), Machine(("a", "b"), "s", {**MOVES, ("u", "a"): "s"}, ("s",)))

    def test_values_of_built_in_kinds(self):
        machine = ab()
        parts = (("a", "b"), "s", MOVES, ("s",))
        for value in [value for value in odd_values() if not isinstance(value, Machine)] + [parts, list(parts), MOVES]:
            self.assert_unequal_both_ways(machine, value)

    def test_a_machine_is_found_in_a_list(self):
        self.assertIn(ab(), [None, "s", ab()])
        self.assertNotIn(ab(), [None, "s", ("a", "b")])
