"""Point 18: rows by which readers differ or tell too late, and the configurations to which rows lead."""

import random
import unittest

from slipstold.errors import Unlike
from slipstold.machines import Machine, trimmed
from slipstold.readers import Reader
from slipstold.readings import arrive, told
from slipstold.rows import alike, late, reachable
from tests import plain
from tests.samples import ab, all_rows, plain_behind, random_parts


def plain_told(sample, row):
    """The places told, by the plain reading."""
    parts, table, hold, _ = sample
    return plain.read(parts, table, hold, row)["told"]


def random_pairs(seed, many):
    """Pairs of readers with the same tokens; many of them differ in little."""
    chance = random.Random(seed)
    for parts, table, hold, reader in plain.random_readers(seed, many, most_tokens=2, most_states=4):
        other_parts, other_table, other_hold = parts, dict(table), hold
        kind = chance.randint(0, 3)
        if kind == 0:
            other_hold = chance.randint(0, 3)
        elif kind == 1:
            other_table = plain.random_table(chance, parts)
        elif kind == 2 and plain.open_pairs(parts):
            pair = chance.choice(plain.open_pairs(parts))
            other_table[pair] = plain.random_action(chance, parts, pair)
            if plain.ringing(parts, other_table):
                continue
        else:
            other_parts = random_parts(chance, most_tokens=len(parts[0]), most_states=4)
            if sorted(other_parts[0]) != sorted(parts[0]):
                continue
            other_table = plain.random_table(chance, other_parts)
        other = Reader(Machine(*other_parts), other_table, hold=other_hold)
        yield (parts, table, hold, reader), (other_parts, other_table, other_hold, other)


class Alike(unittest.TestCase):
    def test_equal_readers(self):
        one = Reader(ab(), {("s", "b"): ("pass", ["a", "b"], "t")}, hold=2)
        self.assertIsNone(alike(one, one))
        self.assertIsNone(alike(one, Reader(ab(), {("s", "b"): ["pass", ("b", "a"), "t"], ("t", "a"): ("skip",)}, hold=2)))

    def test_readers_that_differ_and_tell_the_same(self):
        # Both pass over all tokens that are wrong, one of them state by state.
        one = Reader(ab(), {})
        self.assertIsNone(alike(one, Reader(ab(), {("t", "a"): ("skip",)})))
        # The states that no row reaches make no difference.
        wide = Machine(("b", "a"), "s", {("s", "a"): "t", ("t", "b"): "s", ("q", "a"): "q"}, ("q", "s"))
        self.assertIsNone(alike(one, Reader(wide, {("q", "b"): ("jump", "t")})))

    def test_a_difference_at_a_token(self):
        one = Reader(ab(), {})
        # Behind the error at a second a, the one is at t and the other at s.
        self.assertEqual(alike(one, Reader(ab(), {("t", "a"): ("take", "b")})), ("a", "a"))
        # Here the end behind b differs; places within a row and its end both count.
        self.assertEqual(alike(one, Reader(ab(), {("s", "b"): ("take", "a")})), ("b",))

    def test_a_difference_at_the_empty_row(self):
        moves = {("s", "a"): "t", ("t", "b"): "s"}
        one = Reader(Machine(["a", "b"], "s", moves, ["s"]), {})
        other = Reader(Machine(["b", "a"], "s", moves, ["t"]), {})
        self.assertEqual(alike(one, other), ())
        self.assertEqual(alike(other, one), ())

    def test_holds_differ(self):
        one = Reader(ab(), {})
        self.assertEqual(alike(one, one.with_hold(1)), ("a", "a"))
        # The end is told if it lies more than the hold behind the error at b.
        self.assertEqual(alike(one.with_hold(1), one.with_hold(2)), ("b", "a"))
        self.assertEqual(alike(one.with_hold(3), one.with_hold(2)), ("b", "a", "a"))
        # A reader that never meets an error tells the same with each hold.
        full = Reader(Machine(["a"], "s", {("s", "a"): "s"}, ["s"]), {})
        self.assertIsNone(alike(full, full.with_hold(3)))

    def test_tokens_differ(self):
        one = Reader(ab(), {})
        for tokens in (["a"], ["a", "b", "c"], ["b", "c"], ["a", "bb"]):
            other = Reader(Machine(tokens, "s", {}, ["s"]), {})
            for pair in ((one, other), (other, one)):
                with self.assertRaises(Unlike):
                    alike(*pair)

    def test_by_chance(self):
        found = {"none": 0, "short": 0, "long": 0}
        for one, other in random_pairs(51, 400):
            longest = 7 if len(one[0][0]) == 2 else 14
            rows = [row for row in all_rows(one[0][0], longest) if plain_told(one, row) != plain_told(other, row)][:1]
            result = alike(one[3], other[3])
            if rows:
                self.assertEqual(result, rows[0])
                found["short"] += 1
            elif result is None:
                found["none"] += 1
            else:
                self.assertGreater(len(result), longest)
                self.assertNotEqual(plain_told(one, result), plain_told(other, result))
                found["long"] += 1
        self.assertGreater(found["none"], 30)
        self.assertGreater(found["short"], 100)
        self.assertLess(found["long"], 30)

    def test_none_holds_for_long_rows_too(self):
        chance = random.Random(52)
        for one, other in random_pairs(52, 200):
            if alike(one[3], other[3]) is None:
                row = [chance.choice(one[0][0]) for _ in range(200)]
                self.assertEqual(told(one[3], row), told(other[3], row))

    def test_it_goes_both_ways(self):
        for one, other in random_pairs(53, 100):
            self.assertEqual(alike(one[3], other[3]), alike(other[3], one[3]))


class Late(unittest.TestCase):
    def plain_late(self, sample, longest):
        """The least row up to a length that is told too late, or None."""
        parts = sample[0]
        ahead = {state: {parts[2][pair] for pair in parts[2] if pair[0] == state} for state in plain.all_states(parts)}
        good = {state for state in ahead if plain.closure(ahead, state) & set(parts[3])}
        for row in all_rows(parts[0], longest):
            hopeless = [place for place in range(len(row)) if plain_behind(parts, row[:place + 1]) not in good]
            if plain_behind(parts, row) not in parts[3]:
                hopeless.append(len(row))
            places = plain_told(sample, row)
            # A row is told of if and only if it is not right.
            self.assertEqual(bool(places), bool(hopeless))
            if places and places[0] > hopeless[0]:
                return row
        return None

    def test_a_dead_end(self):
        # Behind b no right row goes on, and b has a move.
        machine = Machine(("a", "b"), "s", {("s", "a"): "t", ("t", "b"): "q", ("q", "a"): "q"}, ("t",))
        for hold in range(4):
            self.assertEqual(late(Reader(machine, {}, hold=hold)), ("a", "b"))
            self.assertIsNone(late(Reader(trimmed(machine), {}, hold=hold)))

    def test_the_least_of_several_rows(self):
        moves = {("s", "b"): "q", ("s", "a"): "t", ("t", "a"): "q", ("s", "c"): "q"}
        self.assertEqual(late(Reader(Machine(("c", "b", "a"), "s", moves, ("t",)), {})), ("b",))

    def test_no_dead_end(self):
        self.assertIsNone(late(Reader(ab(), {})))
        self.assertIsNone(late(Reader(ab(), {("s", "b"): ("jump", "t"), ("t", "a"): ("put", "b")}, hold=3)))
        # The state q is a dead end that only a jump reaches.
        machine = Machine(("a", "b"), "s", {("s", "a"): "t", ("q", "a"): "q"}, ("t",))
        self.assertIsNone(late(Reader(machine, {("s", "b"): ("jump", "q")})))

    def test_by_chance(self):
        found = []
        for sample in plain.random_readers(54, 600, most_tokens=2):
            result = late(sample[3])
            self.assertEqual(result, self.plain_late(sample, 6))
            found.append(result)
        self.assertGreater(sum(row is None for row in found), 50)
        self.assertGreater(sum(row is not None for row in found), 30)

    def test_trimmed_machines_are_never_late(self):
        chance = random.Random(55)
        for parts, _, hold, reader in plain.random_readers(55, 100):
            machine = trimmed(reader.machine)
            right = (machine.tokens(), machine.start, machine.moves(), machine.finals())
            table = plain.random_table(chance, right)
            self.assertIsNone(late(Reader(machine, table, hold=hold)))


class Reachable(unittest.TestCase):
    def test_ordinary_readers(self):
        self.assertEqual(reachable(Reader(ab(), {})), [("s", (), 0), ("t", (), 0)])
        self.assertEqual(reachable(Reader(ab(), {}, hold=1)),
                         [("s", (), 0), ("s", (), 1), ("t", (), 0), ("t", (), 1)])

    def test_configurations_to_which_no_row_leads(self):
        # Behind an error the reader waits at t, where only an a is found, and that is no move.
        reader = Reader(ab(), {("s", "b"): ("pass", ["a"], "t"), ("t", "a"): ("take", "b")}, hold=1)
        self.assertEqual(reachable(reader), [
            ("s", (), 0), ("s", (), 1), ("t", (), 0), ("t", ("a",), 0), ("t", ("a",), 1)])

    def test_the_empty_row_counts(self):
        reader = Reader(Machine(["a"], "s", {("s", "a"): "t"}, ["t"]), {})
        self.assertEqual(reachable(reader), [("s", (), 0), ("t", (), 0)])

    def test_by_chance(self):
        partial = 0
        for parts, table, hold, reader in plain.random_readers(56, 200, most_tokens=3):
            found = {(parts[1], (), 0)}
            queue = list(found)
            for configuration in queue:
                for token in parts[0]:
                    ahead = plain.plain_after(parts, table, hold, configuration, token)[0]
                    if ahead not in found:
                        found.add(ahead)
                        queue.append(ahead)
            self.assertEqual(reachable(reader), sorted(found))
            partial += len(found) < len(plain.plain_configurations(parts, table, hold))
            for row in all_rows(parts[0], 3):
                self.assertIn(arrive(reader, row), found)
        self.assertGreater(partial, 20)

    def test_a_changed_list_changes_nothing(self):
        reader = Reader(ab(), {}, hold=1)
        found = reachable(reader)
        before = list(found)
        found.clear()
        self.assertEqual(reachable(reader), before)
