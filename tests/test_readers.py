"""Points 10 to 12: the parts of a reader, what it shows of them, and readers made of it."""

import copy
import itertools
import random
import unittest

from slipstold.errors import BadReader, BadRing, NoRow, SlipError
from slipstold.machines import Machine
from slipstold.readers import Reader
from slipstold.readings import told
from tests.plain import all_states, full_table, open_pairs, random_action, random_readers, ringing
from tests.samples import ab, nested, odd_values, random_parts

SKIP = ("skip",)
# In this machine the pairs (r, a), (r, b), (r, c), (s, b), (s, c), (t, a) and (t, c) have no move.
PARTS = (("c", "a", "b"), "s", {("s", "a"): "t", ("t", "b"): "r"}, ("r",))
OPEN = [("r", "a"), ("r", "b"), ("r", "c"), ("s", "b"), ("s", "c"), ("t", "a"), ("t", "c")]


def abc():
    return Machine(*PARTS)


class Case(unittest.TestCase):
    def assert_bad(self, part, make, *arguments, **more):
        with self.assertRaises(BadReader) as caught:
            make(*arguments, **more)
        self.assertEqual(caught.exception.part, part, (arguments, more))

    def assert_ring(self, state, token, make, *arguments, **more):
        with self.assertRaises(BadRing) as caught:
            make(*arguments, **more)
        self.assertEqual((caught.exception.state, caught.exception.token), (state, token), (arguments, more))

    def assert_bad_action(self, action, pair=("t", "a")):
        self.assert_bad("table", Reader, abc(), {pair: action})
        self.assert_bad("table", Reader(abc(), {}).with_action, pair[0], pair[1], action)

    def assert_good_action(self, action, expected, pair=("t", "a")):
        for reader in (Reader(abc(), {pair: action}), Reader(abc(), {}).with_action(pair[0], pair[1], action)):
            self.assertEqual(reader[pair], expected)
            self.assertEqual(reader.table(), {**dict.fromkeys(OPEN, SKIP), pair: expected})


class Tables(Case):
    def test_what_is_no_dict(self):
        for value in odd_values() + ["", "ab", [], (), [(("t", "a"), SKIP)], {("t", "a")}, set()]:
            self.assert_bad("table", Reader, ab(), value)

    def test_pairs_left_out_skip(self):
        reader = Reader(abc(), {})
        self.assertEqual(reader.table(), dict.fromkeys(OPEN, SKIP))
        reader = Reader(abc(), {("t", "c"): ("take", "b")})
        self.assertEqual(reader.table(), {**dict.fromkeys(OPEN, SKIP), ("t", "c"): ("take", "b")})

    def test_a_machine_with_all_moves_has_an_empty_table(self):
        machine = Machine(["a"], "s", {("s", "a"): "s"}, ["s"])
        self.assertEqual(Reader(machine, {}).table(), {})
        self.assert_bad("table", Reader, machine, {("s", "a"): SKIP})

    def test_keys_that_have_a_move(self):
        for pair in (("s", "a"), ("t", "b")):
            self.assert_bad("table", Reader, abc(), {pair: SKIP})

    def test_keys_that_name_no_state_or_no_token(self):
        for pair in (("q", "a"), ("t", "d"), ("q", "d"), ("a", "t"), ("a", "a"), ("t", "t"), ("", "a"), ("t", "")):
            self.assert_bad("table", Reader, abc(), {pair: SKIP})

    def test_keys_that_are_no_pairs(self):
        for key in ("ta", "t", ("t",), ("t", "a", "a"), (), (("t", "a"),), ("t", ("a",)), (None, "a"), ("t", None),
                    frozenset(["t", "a"]), b"ta", (b"t", b"a"), None, 0, True, ("t", 1)):
            self.assert_bad("table", Reader, abc(), {key: SKIP})

    def test_odd_keys(self):
        for value in odd_values():
            for key in (value, (value, "a"), ("t", value), (value, value), ("t", "a", value)):
                try:
                    table = {("t", "a"): SKIP, key: SKIP}
                except TypeError:
                    continue
                self.assert_bad("table", Reader, abc(), table)

    def test_one_bad_entry_among_good_ones(self):
        good = {pair: SKIP for pair in OPEN}
        Reader(abc(), good)
        for pair in OPEN:
            self.assert_bad("table", Reader, abc(), {**good, pair: ("put", "c")})
        self.assert_bad("table", Reader, abc(), {**good, ("s", "a"): SKIP})

    def test_the_table_is_taken_as_it_was_given_then(self):
        wide = ["b", "a"]
        action = ["pass", wide, "s"]
        table = {("t", "c"): action, ("r", "c"): ["jump", "s"]}
        reader = Reader(abc(), table)
        before = copy.deepcopy(table)
        self.assertEqual(table, before)
        wide.append("c")
        action[2] = "r"
        table[("t", "a")] = ("take", "b")
        table[("r", "c")][1] = "t"
        self.assertEqual(reader.table(), {**dict.fromkeys(OPEN, SKIP), ("t", "c"): ("pass", ("a", "b"), "s"),
                                          ("r", "c"): ("jump", "s")})

    def test_readers_by_chance(self):
        for parts, table, hold, reader in random_readers(31, 200):
            self.assertEqual(reader.table(), full_table(parts, table))
            self.assertEqual(reader.hold, hold)
            self.assertEqual(reader.machine, Machine(*parts))


class Actions(Case):
    def test_skip(self):
        self.assert_good_action(("skip",), SKIP)
        self.assert_good_action(["skip"], SKIP)
        for action in (("skip", "a"), ["skip", None], ("skip", "a", "s"), "skip", ("Skip",), ("skip ",), (b"skip",)):
            self.assert_bad_action(action)

    def test_put_and_take(self):
        for word in ("put", "take"):
            self.assert_good_action((word, "b"), (word, "b"))
            self.assert_good_action([word, "b"], (word, "b"))
            # The state t has no move for a and c; d is no token and r no token but a state.
            for token in ("a", "c", "d", "r", "", "B", None, 1, b"b", ("b",), ["b"]):
                self.assert_bad_action((word, token))
            for action in ((word,), [word], (word, "b", "b"), (word, "b", None), word):
                self.assert_bad_action(action)
        # The state r has no move at all, and s has one for a alone.
        for word, pair in itertools.product(("put", "take"), (("r", "a"), ("r", "b"), ("s", "b"))):
            self.assert_bad_action((word, "b"), pair)
        self.assert_good_action(("take", "a"), ("take", "a"), ("s", "b"))
        # (t, b) is behind the put: the token is a move there.
        self.assert_good_action(("put", "a"), ("put", "a"), ("s", "b"))

    def test_jump(self):
        for state in ("r", "s"):
            self.assert_good_action(("jump", state), ("jump", state))
            self.assert_good_action(["jump", state], ("jump", state))
        for state in ("t", "q", "a", "", "S", None, 0, b"s", ("s",), ["s"]):
            self.assert_bad_action(("jump", state))
        for action in (("jump",), ("jump", "s", "s"), ("jump", "s", None), ["jump", "t"], "jump"):
            self.assert_bad_action(action)

    def test_pass(self):
        for wide in (("b",), ("b", "c"), ["c", "b"], ("c",)):
            for state in ("r", "s", "t"):
                expected = ("pass", tuple(sorted(wide)), state)
                self.assert_good_action(("pass", wide, state), expected)
                self.assert_good_action(["pass", wide, state], expected)
        for wide in itertools.permutations(("a", "b", "c")):
            self.assert_good_action(("pass", wide, "s"), ("pass", ("a", "b", "c"), "s"))
        for state in ("q", "a", "", None, 0, b"s", ("s",), ["s"]):
            self.assert_bad_action(("pass", ("b",), state))
        for wide in ((), [], ("b", "b"), ["a", "b", "c", "a"], ("d",), ("a", "d"), ("s",), "b", "bc", {"b"}, {"b": 1},
                     frozenset(["b"]), ("b", None), (None,), (1,), (["b"],), b"b", None, 3, ("a", "b", "c", "d")):
            self.assert_bad_action(("pass", wide, "s"))
        for action in (("pass",), ("pass", ("b",)), ("pass", ("b",), "s", "s"), ("pass", "s", ("b",)), ("pass", "b", "s"),
                       "pass"):
            self.assert_bad_action(action)

    def test_passes_over_five_tokens(self):
        tokens = ("a", "b", "c", "d")
        machine = Machine(tokens, "s", {("s", "a"): "t"}, ("t",))
        reader = Reader(machine, {("s", "b"): ("pass", ["d", "b", "c", "a"], "t"), ("t", "a"): SKIP})
        self.assertEqual(reader["s", "b"], ("pass", tokens, "t"))
        for wide in (tokens + ("a",), tokens + ("e",), list(tokens) + ["d"], ("a", "a", "b", "c", "d")):
            self.assert_bad("table", Reader, machine, {("s", "b"): ("pass", wide, "t")})

    def test_other_words(self):
        for word in ("", "move", "drop", "keep", "turn", "wait", "PUT", "put ", "error", "end", "over", "found"):
            for action in ((word,), (word, "b"), (word, "s"), (word, ("b",), "s"), word):
                self.assert_bad_action(action)

    def test_odd_values(self):
        for value in odd_values():
            for action in (value, (value,), [value], (value, "b"), ("skip", value), ("put", value), ["take", value],
                           ("jump", value), ("pass", value, "s"), ("pass", ("b",), value), ("pass", (value,), "s"),
                           ("pass", ["b", value], "s"), (value, value, value), (value, ("b",), "s")):
                self.assert_bad_action(action)
        for action in ((), [], {}, {"skip"}, {"skip": 1}, nested(list, 90), nested(tuple, 90)):
            self.assert_bad_action(action)


class Holds(Case):
    def test_good_holds(self):
        for hold in range(4):
            self.assertEqual(Reader(ab(), {}, hold=hold).hold, hold)
        self.assertEqual(Reader(ab(), {}).hold, 0)

    def test_bad_holds(self):
        for hold in [-1, 4, 5, -10 ** 40, 10 ** 40, True, False, "0", "1", "", b"1", None, [1], (1,), {1}, {1: 1}]:
            self.assert_bad("hold", Reader, ab(), {}, hold=hold)
            self.assert_bad("hold", Reader(ab(), {}).with_hold, hold)
        for hold in odd_values():
            if hold not in (0, 1) or isinstance(hold, bool):
                self.assert_bad("hold", Reader, ab(), {}, hold=hold)
                self.assert_bad("hold", Reader(ab(), {}).with_hold, hold)

    def test_hold_is_passed_by_its_name(self):
        with self.assertRaises(TypeError):
            Reader(ab(), {}, 1)


class Order(Case):
    def test_table_then_hold_then_ring(self):
        bad = {("s", "b"): ("put", "b")}
        ringed = {("s", "b"): ("pass", ("b",), "s")}
        mixed = {("s", "b"): ("pass", ("b",), "s"), ("t", "a"): ("put", "a")}
        for hold in (-1, 4, True, "1", None):
            self.assert_bad("table", Reader, ab(), bad, hold=hold)
            self.assert_bad("table", Reader, ab(), None, hold=hold)
            self.assert_bad("table", Reader, ab(), mixed, hold=hold)
            self.assert_bad("hold", Reader, ab(), ringed, hold=hold)
        for hold in range(4):
            self.assert_bad("table", Reader, ab(), mixed, hold=hold)
            self.assert_ring("s", "b", Reader, ab(), ringed, hold=hold)


class Rings(Case):
    def test_worked_example(self):
        self.assert_ring("s", "b", Reader, ab(), {("s", "b"): ("pass", ("b",), "s")})

    def test_a_pass_without_its_own_token_does_not_ring(self):
        self.assertEqual(Reader(ab(), {("s", "b"): ("pass", ("a",), "s")})["s", "b"], ("pass", ("a",), "s"))

    def test_a_ring_of_two_pairs(self):
        table = {("t", "c"): ("jump", "r"), ("r", "c"): ("jump", "t")}
        self.assert_ring("r", "c", Reader, abc(), table)

    def test_a_ring_of_three_pairs_with_all_that_looks_again(self):
        machine = Machine("a b c".split(), "s", {("s", "a"): "t", ("t", "b"): "u"}, ["u"])
        table = {("s", "c"): ("put", "a"), ("t", "c"): ["pass", ["c", "a"], "u"], ("u", "c"): ("jump", "s")}
        self.assert_ring("s", "c", Reader, machine, table)
        for pair, action in ((("s", "c"), ("take", "a")), (("t", "c"), ("pass", ("a", "b"), "u")), (("u", "c"), SKIP)):
            self.assertEqual(Reader(machine, {**table, pair: action})[pair], action)

    def test_a_put_can_ring_in_its_own_state(self):
        machine = Machine(["a", "b"], "s", {("s", "a"): "s"}, ["s"])
        self.assert_ring("s", "b", Reader, machine, {("s", "b"): ("put", "a")})
        self.assertEqual(Reader(machine, {("s", "b"): ("take", "a")})["s", "b"], ("take", "a"))

    def test_pairs_that_only_lead_into_a_ring_ring_too(self):
        # The ring is (s, c); (r, c) and (t, c) lead into it.
        table = {("s", "c"): ("pass", ("c",), "s"), ("r", "c"): ("jump", "t"), ("t", "c"): ("jump", "s")}
        self.assert_ring("r", "c", Reader, abc(), table)
        del table["r", "c"]
        self.assert_ring("s", "c", Reader, abc(), table)

    def test_a_pair_of_an_unreachable_state_rings(self):
        machine = Machine(["a"], "s", {("q", "a"): "s"}, ["s", "p"])
        self.assert_ring("p", "a", Reader, machine, {("p", "a"): ("pass", ("a",), "p")})

    def test_rings_are_told_apart_by_tokens(self):
        # For the token b the jump ends at the move (t, b); for c it goes on.
        table = {("s", "b"): ("jump", "t"), ("s", "c"): ("jump", "t"), ("t", "c"): ("jump", "s")}
        self.assert_ring("s", "c", Reader, abc(), table)
        del table["s", "c"]
        Reader(abc(), table)

    def test_the_least_of_several_rings(self):
        both = {("t", "a"): ("pass", ("a",), "t"), ("r", "c"): ("pass", ("c",), "r"), ("r", "b"): ("pass", ("b",), "r")}
        for order in itertools.permutations(both):
            self.assert_ring("r", "b", Reader, abc(), {pair: both[pair] for pair in order})

    def test_tables_by_chance(self):
        chance = random.Random(32)
        seen = []
        for _ in range(1500):
            parts = random_parts(chance, most_tokens=3)
            table = {pair: random_action(chance, parts, pair) for pair in open_pairs(parts)}
            bad = ringing(parts, table)
            seen.append(len(bad))
            if bad:
                self.assert_ring(*bad[0], Reader, Machine(*parts), table)
            else:
                self.assertEqual(Reader(Machine(*parts), table).table(), full_table(parts, table))
        self.assertGreater(sum(many > 1 for many in seen), 100)
        self.assertGreater(sum(many == 0 for many in seen), 100)


class Shown(Case):
    def test_items(self):
        reader = Reader(ab(), {("t", "a"): ["put", "b"]})
        self.assertEqual(reader["s", "a"], ("move", "t"))
        self.assertEqual(reader["t", "b"], ("move", "s"))
        self.assertEqual(reader["t", "a"], ("put", "b"))
        self.assertEqual(reader["s", "b"], SKIP)

    def test_items_by_chance(self):
        for parts, table, _, reader in random_readers(33, 100):
            full = full_table(parts, table)
            for pair in itertools.product(all_states(parts), parts[0]):
                if pair in parts[2]:
                    self.assertEqual(reader[pair], ("move", parts[2][pair]))
                else:
                    self.assertEqual(reader[pair], full[pair])
                self.assertIsInstance(reader[pair], tuple)

    def test_none_for_anything_else(self):
        reader = Reader(ab(), {})
        for pair in (("s", "c"), ("q", "a"), ("a", "s"), ("s",), ("s", "a", "a"), (), "sa", ["s", "a"], ("s", "a", None)):
            self.assertIsNone(reader[pair])
        for value in odd_values():
            for index in (value, (value, "a"), ("s", value), (value, value), [value], ("s", "a", value)):
                self.assertIsNone(reader[index])

    def test_a_reader_cannot_be_iterated_over(self):
        with self.assertRaises(TypeError):
            list(Reader(ab(), {}))

    def test_a_changed_table_changes_nothing(self):
        reader = Reader(ab(), {("s", "b"): ("pass", ["a"], "t")})
        first = reader.table()
        first.clear()
        second = reader.table()
        second["s", "b"] = SKIP
        self.assertEqual(reader.table(), {("s", "b"): ("pass", ("a",), "t"), ("t", "a"): SKIP})
        self.assertIsNot(reader.table(), reader.table())
        self.assertEqual(reader["s", "b"], ("pass", ("a",), "t"))

    def test_changed_parts_of_the_machine_change_nothing(self):
        tokens, moves, finals = ["a", "b"], {("s", "a"): "t", ("t", "b"): "s"}, ["s"]
        reader = Reader(Machine(tokens, "s", moves, finals), {})
        tokens.append("c")
        moves.clear()
        finals[0] = "t"
        reader.machine.moves().clear()
        reader.machine.tokens().clear()
        self.assertEqual(reader, Reader(ab(), {}))
        self.assertEqual(told(reader, ("a", "b", "b")), [2])


class Changed(Case):
    def test_with_hold(self):
        for parts, table, hold, reader in random_readers(34, 40):
            for other in range(4):
                changed = reader.with_hold(other)
                self.assertEqual(changed.hold, other)
                self.assertEqual(changed, Reader(Machine(*parts), table, hold=other))
                self.assertEqual(reader.hold, hold)
        self.assertEqual(Reader(ab(), {}).with_hold(hold=2).hold, 2)

    def test_with_hold_shares_no_table(self):
        reader = Reader(ab(), {})
        changed = reader.with_hold(1)
        changed.table()["s", "b"] = ("take", "a")
        self.assertEqual(reader.table(), dict.fromkeys([("s", "b"), ("t", "a")], SKIP))

    def test_with_action(self):
        chance = random.Random(35)
        for parts, table, hold, reader in random_readers(35, 300):
            before = reader.table()
            for pair in open_pairs(parts):
                action = random_action(chance, parts, pair)
                given = copy.deepcopy(action)
                bad = ringing(parts, {**table, pair: action})
                if bad:
                    self.assert_ring(*bad[0], reader.with_action, pair[0], pair[1], action)
                else:
                    changed = reader.with_action(pair[0], pair[1], action)
                    self.assertEqual(changed, Reader(Machine(*parts), {**table, pair: action}, hold=hold))
                    self.assertEqual(changed.hold, hold)
                self.assertEqual(action, given)
                self.assertEqual(reader.table(), before)

    def test_with_action_by_names(self):
        reader = Reader(ab(), {}, hold=2).with_action(action=["take", "a"], token="b", state="s")
        self.assertEqual(reader, Reader(ab(), {("s", "b"): ("take", "a")}, hold=2))

    def test_with_action_at_no_pair_without_a_move(self):
        reader = Reader(ab(), {})
        for state, token in (("s", "a"), ("t", "b"), ("q", "a"), ("s", "c"), ("b", "s"), ("", "b"), ("s", ""),
                             ("s", None), (None, "b"), (["s"], "b"), ("s", ["b"]), ({}, {}), (("s",), ("b",))):
            for action in (SKIP, ("put", "b"), None):
                self.assert_bad("table", reader.with_action, state, token, action)
        for value in odd_values():
            self.assert_bad("table", reader.with_action, value, "b", SKIP)
            self.assert_bad("table", reader.with_action, "s", value, SKIP)
            self.assert_bad("table", reader.with_action, value, value, value)

    def test_with_action_takes_the_action_as_it_was_then(self):
        wide = ["b", "a"]
        action = ["pass", wide, "s"]
        reader = Reader(ab(), {}).with_action("t", "a", ["pass", wide, "s"])
        wide.clear()
        action.clear()
        self.assertEqual(reader["t", "a"], ("pass", ("a", "b"), "s"))

    def test_with_action_that_rings(self):
        reader = Reader(abc(), {("t", "c"): ("jump", "r")})
        self.assert_ring("r", "c", reader.with_action, "r", "c", ("jump", "t"))
        self.assert_bad("table", reader.with_action, "r", "c", ("jump", "r"))
        self.assertEqual(reader.table(), {**dict.fromkeys(OPEN, SKIP), ("t", "c"): ("jump", "r")})


class Equality(Case):
    def test_parts_that_were_given_otherwise(self):
        one = Reader(abc(), {("t", "c"): ("pass", ("a", "b"), "s"), ("r", "a"): SKIP, ("s", "b"): ["take", "a"]}, hold=2)
        machine = Machine(["a", "b", "c"], "s", {("t", "b"): "r", ("s", "a"): "t"}, ["r"])
        other = Reader(machine, {("s", "b"): ("take", "a"), ("t", "c"): ["pass", ["b", "a"], "s"]}, hold=2)
        self.assertTrue(one == other)
        self.assertFalse(one != other)
        self.assertTrue(one == one)

    def test_each_part_counts(self):
        table = {("s", "b"): ("take", "a")}
        one = Reader(ab(), table, hold=1)
        wider = Machine(["a", "b"], "s", {("s", "a"): "t", ("t", "b"): "s"}, ["s", "t"])
        for other in (Reader(ab(), table), Reader(ab(), {}, hold=1), Reader(wider, table, hold=1),
                      Reader(ab(), {("s", "b"): ("put", "a")}, hold=1)):
            self.assertFalse(one == other)
            self.assertTrue(one != other)

    def test_machines_with_the_same_moves_and_another_start(self):
        moves = {("s", "a"): "t", ("t", "a"): "s"}
        one = Reader(Machine(["a"], "s", moves, ["s"]), {})
        other = Reader(Machine(["a"], "t", moves, ["s"]), {})
        self.assertFalse(one == other)

    def test_values_of_other_kinds(self):
        reader = Reader(ab(), {})
        values = [value for value in odd_values() if not isinstance(value, Reader)]
        for value in values + [reader.table(), [reader], (reader,), ab(), (ab(), {}), {}, NoRow(1)]:
            self.assertFalse(reader == value)
            self.assertFalse(value == reader)
            self.assertTrue(reader != value)

    def test_errors_are_slip_errors(self):
        for error in (BadReader, BadRing):
            self.assertTrue(issubclass(error, SlipError))
