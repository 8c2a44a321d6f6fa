"""Points 13 to 17: configurations, what is told and mended, the trail and the reader's own script."""

import itertools
import random
import unittest

from slipstold.edits import source, target
from slipstold.errors import NoConfiguration, NoRow
from slipstold.machines import Machine
from slipstold.readers import Reader
from slipstold.readings import after, arrive, at_end, configurations, first, mended, mends, told, trail
from tests import plain
from tests.samples import ab, all_rows, odd_values

ROW_FUNCTIONS = (told, mends, arrive, trail, mended)


def answers(reader, row):
    """What all functions over rows return, under their names."""
    return {function.__name__: function(reader, row) for function in ROW_FUNCTIONS}


def waiting_reader(hold=0):
    """A reader that waits for b at r behind an error at (s, b), or for b and c at s behind one at (s, c)."""
    machine = Machine(("a", "b", "c"), "s", {("s", "a"): "t", ("t", "b"): "r"}, ("r",))
    table = {("s", "b"): ("pass", ("c", "a"), "t"), ("s", "c"): ("pass", ["b"], "t"), ("t", "c"): ("pass", ("b",), "t"),
             ("t", "a"): ("put", "b"), ("r", "a"): ["jump", "s"], ("r", "b"): ("pass", ("a", "c"), "t")}
    return Reader(machine, table, hold=hold)


class Configurations(unittest.TestCase):
    def test_first(self):
        self.assertEqual(first(Reader(ab(), {})), ("s", (), 0))
        machine = Machine(["a"], "q", {("q", "a"): "a"}, ["a"])
        self.assertEqual(first(Reader(machine, {}, hold=3)), ("q", (), 0))

    def test_readers_that_never_wait(self):
        self.assertEqual(configurations(Reader(ab(), {})), [("s", (), 0), ("t", (), 0)])
        self.assertEqual(configurations(Reader(ab(), {("s", "b"): ("put", "a")}, hold=1)),
                         [("s", (), 0), ("s", (), 1), ("t", (), 0), ("t", (), 1)])

    def test_passes_that_are_alike_and_passes_with_one_state(self):
        # Two passes wait for b at t, two for a and c at t, one of them with its tokens in another order.
        expected = [(state, waiting, quiet) for state, waiting in
                    (("r", ()), ("s", ()), ("t", ()), ("t", ("a", "c")), ("t", ("b",))) for quiet in range(3)]
        self.assertEqual(configurations(waiting_reader(hold=2)), expected)

    def test_passes_that_never_wait_count_too(self):
        # The pass always finds its token at once; its state is reached by no row.
        machine = Machine(["a"], "s", {("s", "a"): "s"}, ["s", "q"])
        reader = Reader(machine, {("q", "a"): ("pass", ["a"], "s")})
        self.assertEqual(configurations(reader), [("q", (), 0), ("s", (), 0), ("s", ("a",), 0)])

    def test_readers_by_chance(self):
        for parts, table, hold, reader in plain.random_readers(41, 300):
            self.assertEqual(configurations(reader), plain.plain_configurations(parts, table, hold))
            self.assertEqual(first(reader), (parts[1], (), 0))

    def test_a_changed_list_changes_nothing(self):
        reader = waiting_reader(hold=1)
        found = configurations(reader)
        before = list(found)
        found.clear()
        self.assertEqual(configurations(reader), before)
        self.assertEqual(after(reader, ("t", ("b",), 1), "b"), (("r", (), 0), 0, 0))


class Steps(unittest.TestCase):
    def test_a_waiting_reader(self):
        reader = waiting_reader(hold=1)
        self.assertEqual(after(reader, ("s", (), 0), "b"), (("t", ("a", "c"), 1), 1, 1))
        self.assertEqual(after(reader, ("t", ("a", "c"), 1), "b"), (("t", ("a", "c"), 0), 0, 1))
        # It finds a, which is an error at t: put b leads to r, jump to s, and there a moves to t.
        self.assertEqual(after(reader, ("t", ("a", "c"), 0), "a"), (("t", (), 1), 1, 2))
        self.assertEqual(after(reader, ("t", ("a", "c"), 1), "a"), (("t", (), 0), 0, 2))
        self.assertEqual(after(reader, ("t", ("a", "c"), 1), "c"), (("t", ("b",), 0), 0, 1))

    def test_the_end(self):
        reader = waiting_reader(hold=2)
        self.assertEqual(at_end(reader, ("s", (), 0)), (1, 1))
        self.assertEqual(at_end(reader, ("s", (), 1)), (0, 1))
        self.assertEqual(at_end(reader, ("t", ("b",), 2)), (0, 1))
        self.assertEqual(at_end(reader, ("t", ("b",), 0)), (1, 1))
        for quiet in range(3):
            self.assertEqual(at_end(reader, ("r", (), quiet)), (0, 0))

    def test_the_end_of_a_reader_that_waits_at_a_final_state(self):
        reader = Reader(ab(), {("s", "b"): ("pass", ("a",), "s")}, hold=1)
        for quiet in range(2):
            self.assertEqual(at_end(reader, ("s", ("a",), quiet)), (0, 0))

    def test_all_configurations_by_chance(self):
        waited = 0
        for parts, table, hold, reader in plain.random_readers(42, 250):
            for configuration in plain.plain_configurations(parts, table, hold):
                waited += configuration[1] != ()
                self.assertEqual(at_end(reader, configuration), plain.plain_at_end(parts, configuration))
                for token in parts[0]:
                    self.assertEqual(after(reader, configuration, token),
                                     plain.plain_after(parts, table, hold, configuration, token))
        self.assertGreater(waited, 300)

    def test_after_is_what_rows_do(self):
        for parts, _, _, reader in plain.random_readers(43, 30):
            for row in all_rows(parts[0], 3):
                for token in parts[0]:
                    ahead, tells, works = after(reader, arrive(reader, row), token)
                    longer = row + (token,)
                    self.assertEqual(arrive(reader, longer), ahead)
                    self.assertEqual(tells, int(len(row) in told(reader, longer + (token,))))
                    rest = at_end(reader, ahead)[1] - at_end(reader, arrive(reader, row))[1]
                    self.assertEqual(mends(reader, longer), mends(reader, row) + works + rest)

    def test_results_are_plain_integers(self):
        reader = waiting_reader(hold=2)
        for configuration in configurations(reader):
            for token in ("a", "b", "c"):
                ahead, tells, works = after(reader, configuration, token)
                self.assertIs(type(ahead), tuple)
                self.assertEqual([type(value) for value in (ahead[2], tells, works)], [int, int, int])
            self.assertEqual([type(value) for value in at_end(reader, configuration)], [int, int])


class NoConfigurations(unittest.TestCase):
    BAD = [
        ("q", (), 0), ("a", (), 0), ("", (), 0), ("s", (), 3), ("s", (), -1), ("s", (), True), ("s", (), False),
        ("s", (), None), ("s", (), "0"), ("s", ("b",), 0), ("r", ("b",), 0), ("t", ("a",), 0), ("t", ("c",), 0),
        ("t", ("a", "b"), 0), ("t", ("c", "a"), 0), ("t", ("b", "b"), 0), ("t", ("a", "b", "c"), 0), ("t", ["b"], 0),
        ("t", ["a", "c"], 0), ("s", [], 0), ("s", "", 0), ("t", "b", 0), ("s", None, 0), ("s", {}, 0), ("s", ((),), 0),
        ("t", (None,), 0), ("t", (["b"],), 0), ("t", frozenset(["b"]), 0), ("s", ()), ("s", (), 0, 0), (),
        ["s", (), 0], ["t", ("b",), 0], (("s", (), 0),), (["s"], (), 0), (None, (), 0), ("t", ("b",), 3), "s", "st0",
        (("s",), (), 0), ("t", ("b",), True), {"s": 0}, {"s", (), 0}, [("s", (), 0)], (("s", (), 0), "s"),
    ]

    def assert_none(self, reader, value):
        for token in ("a", "d", None, ["a"]):
            with self.assertRaises(NoConfiguration):
                after(reader, value, token)
        with self.assertRaises(NoConfiguration):
            at_end(reader, value)

    def test_bad_values(self):
        for value in self.BAD:
            self.assert_none(waiting_reader(hold=2), value)

    def test_odd_values(self):
        reader = waiting_reader(hold=2)
        for value in odd_values():
            for other in (value, (value, (), 0), ("t", value, 0), ("t", (value,), 0), ("t", ("b", value), 0),
                          (value, value, value), ("s", (), 0, value)):
                self.assert_none(reader, other)
            if not isinstance(value, int) or isinstance(value, bool) or not 0 <= value <= 2:
                self.assert_none(reader, ("s", (), value))

    def test_quiet_is_at_most_the_hold(self):
        for hold, quiet in itertools.product(range(4), range(-2, 6)):
            reader = Reader(ab(), {}, hold=hold)
            if 0 <= quiet <= hold:
                self.assertEqual(at_end(reader, ("s", (), quiet)), (0, 0))
            else:
                self.assert_none(reader, ("s", (), quiet))

    def test_configurations_of_another_reader(self):
        reader = Reader(ab(), {("s", "b"): ("pass", ["a", "b"], "t")})
        self.assertEqual(at_end(reader, ("t", ("a", "b"), 0)), (1, 1))
        self.assert_none(Reader(ab(), {}), ("t", ("a", "b"), 0))

    def test_bad_tokens(self):
        reader = waiting_reader(hold=2)
        for token in odd_values() + ["d", "s", "", "ab", ("a",), ["a"], b"a"]:
            for configuration in (("s", (), 0), ("t", ("b",), 2)):
                with self.assertRaises(NoRow) as caught:
                    after(reader, configuration, token)
                self.assertEqual(caught.exception.place, 0)


class WorkedExamples(unittest.TestCase):
    def test_an_empty_table(self):
        reader = Reader(ab(), {})
        self.assertEqual(answers(reader, ("a", "a")), {
            "told": [1, 2], "mends": 2, "arrive": ("t", (), 0),
            "trail": [(0, "t", "move"), (1, "t", "error"), (1, "t", "skip"), (2, "t", "end")],
            "mended": ([("keep", "a"), ("drop", "a")], False),
        })

    def test_an_empty_table_with_a_hold(self):
        reader = Reader(ab(), {}, hold=1)
        self.assertEqual(told(reader, ("a", "a")), [1])
        self.assertEqual(arrive(reader, ("a", "a")), ("t", (), 1))
        self.assertEqual(mends(reader, ("a", "a")), 2)

    def test_a_put(self):
        reader = Reader(ab(), {("t", "a"): ("put", "b")})
        self.assertEqual(mended(reader, ("a", "a", "b")),
                         ([("keep", "a"), ("put", "b"), ("keep", "a"), ("keep", "b")], True))


class Rows(unittest.TestCase):
    def test_each_word_of_the_trail(self):
        reader = waiting_reader()
        self.assertEqual(answers(reader, ("b", "b", "c", "a", "b", "a", "a")), {
            "told": [0, 2, 5, 6, 7],
            "mends": 8,
            "arrive": ("t", (), 0),
            "trail": [
                (0, "s", "error"), (0, "t", "pass"), (1, "t", "over"), (2, "t", "found"), (2, "t", "error"),
                (2, "t", "pass"), (3, "t", "over"), (4, "t", "found"), (4, "r", "move"), (5, "r", "error"),
                (5, "s", "jump"), (5, "t", "move"), (6, "t", "error"), (6, "r", "put"), (6, "r", "error"),
                (6, "s", "jump"), (6, "t", "move"), (7, "t", "end")],
            "mended": ([("drop", "b"), ("drop", "b"), ("drop", "c"), ("drop", "a"), ("keep", "b"), ("keep", "a"),
                        ("put", "b"), ("keep", "a")], False),
        })

    def test_a_take(self):
        reader = Reader(ab(), {("s", "b"): ["take", "a"], ("t", "a"): ("take", "b")})
        self.assertEqual(answers(reader, ("b", "a")), {
            "told": [0, 1], "mends": 2, "arrive": ("s", (), 0),
            "trail": [(0, "s", "error"), (0, "t", "take"), (1, "t", "error"), (1, "s", "take"), (2, "s", "end")],
            "mended": ([("turn", "b", "a"), ("turn", "a", "b")], True),
        })

    def test_a_pass_that_looks_again_drops_nothing(self):
        reader = Reader(ab(), {("s", "b"): ("pass", ("b",), "t")})
        self.assertEqual(answers(reader, ("b",)), {
            "told": [0], "mends": 1, "arrive": ("s", (), 0),
            "trail": [(0, "s", "error"), (0, "t", "pass"), (0, "s", "move"), (1, "s", "end")],
            "mended": ([("keep", "b")], False),
        })

    def test_one_error_at_most_is_told_at_a_token(self):
        reader = waiting_reader()
        # At (t, a) the reader puts b, jumps to s and moves: two errors, one of them told.
        self.assertEqual(told(reader, ("a", "a", "b")), [1])
        self.assertEqual(mends(reader, ("a", "a", "b")), 2)

    def test_a_row_that_ends_while_the_reader_waits(self):
        self.assertEqual(trail(waiting_reader(), ("c", "a")),
                         [(0, "s", "error"), (0, "t", "pass"), (1, "t", "over"), (2, "t", "end")])
        self.assertEqual(told(waiting_reader(), ("c", "a")), [0, 2])
        self.assertEqual(arrive(waiting_reader(3), ("c", "a")), ("t", ("b",), 2))
        reader = Reader(ab(), {("s", "b"): ("pass", ("a",), "s")})
        self.assertEqual(told(reader, ("b", "b")), [0])
        self.assertEqual(mends(reader, ("b", "b")), 2)
        self.assertEqual(arrive(reader, ("b", "b")), ("s", ("a",), 0))
        self.assertEqual(mended(reader, ("b", "b")), ([("drop", "b"), ("drop", "b")], False))

    def test_the_empty_row(self):
        reader = Reader(ab(), {}, hold=2)
        expected = {"told": [], "mends": 0, "arrive": ("s", (), 0), "trail": [(0, "s", "end")], "mended": ([], True)}
        self.assertEqual(answers(reader, ()), expected)
        self.assertEqual(answers(reader, []), expected)
        machine = Machine(["a"], "s", {("s", "a"): "t"}, ["t"])
        expected = {"told": [0], "mends": 1, "arrive": ("s", (), 0), "trail": [(0, "s", "end")], "mended": ([], False)}
        self.assertEqual(answers(Reader(machine, {}, hold=3), ()), expected)

    def test_each_hold(self):
        for hold, places in ((0, [0, 1, 2, 3, 4, 5, 6]), (1, [0, 2, 4, 6]), (2, [0, 3, 6]), (3, [0, 4])):
            self.assertEqual(told(Reader(ab(), {}, hold=hold), ["b"] * 7), places)
        # The end counts as a place: here it is place 4.
        machine = Machine(["a", "b"], "s", {("s", "a"): "t"}, ["t"])
        for hold, places in ((0, [0, 1, 2, 3, 4]), (1, [0, 2, 4]), (2, [0, 3]), (3, [0, 4])):
            self.assertEqual(told(Reader(machine, {}, hold=hold), ["b"] * 4), places)

    def test_readers_by_chance(self):
        words = set()
        for parts, table, hold, reader in plain.random_readers(44, 240, most_tokens=3):
            for row in all_rows(parts[0], 5 if len(parts[0]) < 3 else 4):
                expected = plain.read(parts, table, hold, row)
                self.assertEqual(answers(reader, row), expected)
                words.update(word for _, _, word in expected["trail"])
        self.assertEqual(len(words), 10)

    def test_long_rows_by_chance(self):
        chance = random.Random(45)
        for parts, table, hold, reader in plain.random_readers(45, 60):
            row = [chance.choice(parts[0]) for _ in range(chance.randint(10, 300))]
            for given in (row, tuple(row)):
                self.assertEqual(answers(reader, given), plain.read(parts, table, hold, given))

    def test_rows_of_2000_tokens(self):
        chance = random.Random(46)
        for parts, table, hold, reader in plain.random_readers(46, 8):
            row = [chance.choice(parts[0]) for _ in range(2000)]
            self.assertEqual(answers(reader, row), plain.read(parts, table, hold, row))
        reader = Reader(ab(), {("s", "b"): ("put", "a"), ("t", "a"): ("put", "b")})
        script, is_whole = mended(reader, ["b"] * 2000)
        self.assertEqual((script, is_whole), ([("put", "a"), ("keep", "b")] * 2000, True))
        self.assertEqual(mends(reader, ["b"] * 2000), 2000)
        self.assertEqual(told(reader, ["b"] * 2000), list(range(2000)))

    def test_a_long_chain_of_puts(self):
        # Each token e brings four puts: the script then has more edits than a row has tokens.
        moves = {(state, "a"): ahead for state, ahead in zip("pqrst", "qrstu")}
        machine = Machine(("a", "e"), "p", {**moves, ("u", "e"): "p"}, ("p",))
        reader = Reader(machine, {(state, "e"): ("put", "a") for state in "pqrst"})
        self.assertEqual(mended(reader, ("e",)), ([("put", "a")] * 5 + [("keep", "e")], True))
        self.assertEqual(mends(reader, ("e",)), 5)
        self.assertEqual(len(mended(reader, ["e"] * 2000)[0]), 12000)

    def test_whole_scripts_lead_to_right_rows(self):
        whole = 0
        for parts, _, _, reader in plain.random_readers(47, 150, most_tokens=3):
            for row in all_rows(parts[0], 4):
                script, is_whole = mended(reader, row)
                self.assertEqual(source(script), row)
                if is_whole:
                    whole += 1
                    self.assertIn(target(script), reader.machine)
        self.assertGreater(whole, 1000)

    def test_right_rows_bring_nothing(self):
        for parts, _, _, reader in plain.random_readers(48, 100, most_tokens=3):
            for row in all_rows(parts[0], 4):
                if row in reader.machine:
                    self.assertEqual(told(reader, row), [])
                    self.assertEqual(mends(reader, row), 0)
                    self.assertEqual(mended(reader, row), ([("keep", token) for token in row], True))

    def test_what_a_reader_does_never_depends_on_the_hold(self):
        for parts, _, _, reader in plain.random_readers(49, 60, most_tokens=3):
            for row in all_rows(parts[0], 4):
                ones = [answers(reader.with_hold(hold), row) for hold in range(4)]
                for name in ("mends", "trail", "mended"):
                    self.assertTrue(all(one[name] == ones[0][name] for one in ones))


class NoRows(unittest.TestCase):
    def assert_no_row(self, row, place):
        for function in ROW_FUNCTIONS:
            with self.assertRaises(NoRow) as caught:
                function(Reader(ab(), {}), row)
            self.assertEqual(caught.exception.place, place, function)

    def test_what_is_no_list_or_tuple(self):
        values = [value for value in odd_values() if not isinstance(value, (list, tuple))]
        for value in values + ["ab", "a", {"a": 1}, {}, set()]:
            self.assert_no_row(value, -1)

    def test_bad_items(self):
        for value in odd_values() + ["c", "s", "ab", ["a"], ("a",)]:
            self.assert_no_row([value], 0)
            self.assert_no_row(("a", "b", value, value), 2)

    def test_too_long_rows(self):
        for row in (["a"] * 2001, ("b",) * 2001, [None] * 2001, ["a"] * 5000):
            self.assert_no_row(row, -1)
        self.assert_no_row(["a"] * 1999 + ["c"], 1999)


class Unchanged(unittest.TestCase):
    def test_rows_stay_as_they_were(self):
        row = ["b", "c", "a", "b", "a"]
        answers(waiting_reader(), row)
        self.assertEqual(row, ["b", "c", "a", "b", "a"])

    def test_results_are_new_ones(self):
        reader = waiting_reader()
        row = ["b", "c", "a", "b", "a"]
        before = answers(reader, row)
        for function in (told, trail):
            function(reader, row).append("more")
        mended(reader, row)[0].clear()
        self.assertEqual(answers(reader, row), before)
        self.assertIsNot(told(reader, row), told(reader, row))

    def test_a_changed_row_changes_no_result(self):
        reader = waiting_reader()
        row = ["b", "c", "a", "b", "a"]
        before = answers(reader, row)
        same = answers(reader, list(row))
        row.clear()
        self.assertEqual(before, same)
