"""Points 19 and 20: standings, the steps between them, and the scripts that lead along them."""

import random
import unittest

from slipstold.edits import cost, source, target
from slipstold.errors import BadScript, NoStanding, TooMany
from slipstold.machines import Machine, hopeful
from slipstold.readers import Reader
from slipstold.readings import at_end, configurations, mends, told
from slipstold.rows import reachable
from slipstold.web import begin, ends, follow, steps, useful
from tests import plain
from tests.samples import ab, all_rows, long_reader, odd_values, parts_of_200, parts_of_201

# The state q is a dead end to which s and u have moves.
DEAD_END = Machine(("a", "b"), "s", {("s", "a"): "t", ("s", "b"): "q", ("t", "b"): "s", ("u", "a"): "t"}, ("t",))


def pass_reader(hold=0):
    """A reader of the machine AB that waits for a behind an error at s."""
    return Reader(ab(), {("s", "b"): ("pass", ["a"], "s"), ("t", "a"): ("put", "b")}, hold=hold)


def plain_sums(parts, table, hold, standing, script):
    """What follow returns for a script, step by step."""
    sums = [0, 0, 0]
    for edit in script:
        found = [step for step in plain.plain_steps(parts, table, hold, standing) if step[0] == edit]
        if not found:
            return None
        standing = found[0][1]
        sums = [sums[k] + found[0][k + 2] for k in range(3)]
    return (standing, *sums)


class Begin(unittest.TestCase):
    def test_begin(self):
        self.assertEqual(begin(Reader(ab(), {})), (("s", (), 0), "s"))
        self.assertEqual(begin(pass_reader(hold=3)), (("s", (), 0), "s"))
        self.assertEqual(begin(Reader(Machine(["a"], "q", {("q", "a"): "s"}, ["s"]), {}, hold=1)), (("q", (), 0), "q"))


class Steps(unittest.TestCase):
    def test_the_steps_of_ab(self):
        reader = Reader(ab(), {})
        self.assertEqual(steps(reader, begin(reader)), [
            (("drop", "a"), (("t", (), 0), "s"), 0, 0, 1),
            (("drop", "b"), (("s", (), 0), "s"), 1, 1, 1),
            (("keep", "a"), (("t", (), 0), "t"), 0, 0, 0),
            (("put", "a"), (("s", (), 0), "t"), 0, 0, 1),
            (("turn", "b", "a"), (("s", (), 0), "t"), 1, 1, 1),
        ])

    def test_a_waiting_reader(self):
        self.assertEqual(steps(pass_reader(hold=2), (("s", ("a",), 1), "t")), [
            (("drop", "a"), (("t", (), 0), "t"), 0, 0, 1),
            (("drop", "b"), (("s", ("a",), 0), "t"), 0, 1, 1),
            (("keep", "b"), (("s", ("a",), 0), "s"), 0, 1, 0),
            (("put", "b"), (("s", ("a",), 1), "s"), 0, 0, 1),
            (("turn", "a", "b"), (("t", (), 0), "s"), 0, 0, 1),
        ])

    def test_moves_to_states_that_are_not_hopeful(self):
        reader = Reader(DEAD_END, {})
        edits = [step[0] for step in steps(reader, begin(reader))]
        self.assertEqual(edits, [("drop", "a"), ("drop", "b"), ("keep", "a"), ("put", "a"), ("turn", "b", "a")])
        # The reader itself takes b to the dead end.
        self.assertEqual(steps(reader, begin(reader))[1], (("drop", "b"), (("q", (), 0), "s"), 0, 0, 1))

    def test_a_state_without_moves(self):
        machine = Machine(["b", "a"], "s", {("s", "a"): "t"}, ["t"])
        edits = [step[0] for step in steps(Reader(machine, {}), (("s", (), 0), "t"))]
        self.assertEqual(edits, [("drop", "a"), ("drop", "b")])

    def test_four_tokens_bring_all_edits_in_order(self):
        tokens = ("a", "b", "c", "d")
        machine = Machine(tokens[::-1], "s", {("s", token): "s" for token in tokens}, ["s"])
        edits = [step[0] for step in steps(Reader(machine, {}), begin(Reader(machine, {})))]
        self.assertEqual(edits, sorted(edits))
        self.assertEqual(len(edits), 24)

    def test_all_standings_by_chance(self):
        many = 0
        for parts, table, hold, reader in plain.random_readers(61, 60, most_tokens=3):
            for configuration in configurations(reader):
                for state in hopeful(reader.machine):
                    standing = (configuration, state)
                    many += 1
                    self.assertEqual(steps(reader, standing), plain.plain_steps(parts, table, hold, standing))
                    if state in parts[3]:
                        self.assertEqual(ends(reader, standing), plain.plain_at_end(parts, configuration))
                    else:
                        self.assertIsNone(ends(reader, standing))
        self.assertGreater(many, 1000)

    def test_ends(self):
        reader = Reader(ab(), {}, hold=1)
        self.assertEqual(ends(reader, (("s", (), 0), "s")), (0, 0))
        self.assertEqual(ends(reader, (("t", (), 0), "s")), (1, 1))
        self.assertEqual(ends(reader, (("t", (), 1), "s")), (0, 1))
        # The reader's own state is final, but the script's is not.
        self.assertIsNone(ends(reader, (("s", (), 0), "t")))

    def test_a_changed_list_changes_nothing(self):
        reader = pass_reader(hold=1)
        found = steps(reader, begin(reader))
        before = list(found)
        found.clear()
        self.assertEqual(steps(reader, begin(reader)), before)


class NoStandings(unittest.TestCase):
    def assert_none(self, reader, value):
        for call in (lambda: steps(reader, value), lambda: ends(reader, value), lambda: follow(reader, value, []),
                     lambda: follow(reader, value, None), lambda: follow(reader, value, [("keep", "A")])):
            with self.assertRaises(NoStanding):
                call()

    def test_bad_values(self):
        reader = Reader(DEAD_END, {("t", "a"): ("pass", ("b",), "t")}, hold=1)
        self.assertEqual(ends(reader, (("t", ("b",), 1), "t")), (0, 0))
        for value in [
                (("t", ("b",), 1), "q"), (("s", (), 0), "u"), (("s", (), 0), "x"), (("s", (), 0), "a"), (("s", (), 0), ""),
                (("s", (), 0), None), (("s", (), 0), ["s"]), (("s", (), 0), ("s",)), (("s", (), 0),), (("s", (), 0), "s", 0),
                [("s", (), 0), "s"], (["s", (), 0], "s"), (("s", [], 0), "s"), (("s", (), 2), "s"), (("s", (), -1), "s"),
                (("s", (), True), "s"), (("s", ("b",), 0), "s"), (("t", ["b"], 0), "s"), ("s", (), 0), "ss", (), "s",
                ("s", ("s", (), 0)), (("x", (), 0), "s"), ((("s", (), 0), "s"), "s"), {("s", (), 0): "s"}, (("s", ()), "s")]:
            self.assert_none(reader, value)

    def test_states_that_are_not_hopeful_may_stand_in_the_configuration(self):
        reader = Reader(DEAD_END, {})
        self.assertEqual(ends(reader, (("q", (), 0), "t")), (1, 1))
        self.assertEqual(ends(reader, (("u", (), 0), "t")), (1, 1))

    def test_odd_values(self):
        reader = pass_reader(hold=1)
        for value in odd_values():
            for other in (value, (value, "s"), (("s", (), 0), value), ((value, (), 0), "s"), (("s", value, 0), "s"),
                          (("s", (value,), 0), "s"), (value, value), (("s", (), 0), "s", value)):
                self.assert_none(reader, other)
            if not isinstance(value, int) or isinstance(value, bool) or not 0 <= value <= 1:
                self.assert_none(reader, (("s", (), value), "s"))

    def test_true_is_no_quiet(self):
        self.assert_none(pass_reader(hold=1), (("s", (), True), "s"))


class Follow(unittest.TestCase):
    def test_ordinary_scripts(self):
        reader = Reader(ab(), {})
        here = begin(reader)
        self.assertEqual(follow(reader, here, []), (here, 0, 0, 0))
        self.assertEqual(follow(reader, here, ()), (here, 0, 0, 0))
        self.assertEqual(follow(reader, here, [("turn", "b", "a"), ("keep", "b")]), (here, 2, 2, 1))
        self.assertEqual(follow(reader, here, (("keep", "a"), ("drop", "a"), ("put", "b"))), ((("t", (), 0), "s"), 1, 1, 2))
        self.assertEqual(follow(reader, (("t", (), 0), "s"), [("put", "a")]), ((("t", (), 0), "t"), 0, 0, 1))

    def test_scripts_that_cannot_be_followed(self):
        reader = Reader(ab(), {})
        for script in ([("keep", "b")], [("put", "b")], [("turn", "a", "b")], [("keep", "a"), ("keep", "a")],
                       [("keep", "a"), ("turn", "b", "a")], [("put", "c")], [("drop", "c")], [("keep", "c")],
                       [("turn", "c", "a")], [("turn", "b", "c")], [("keep", "s")],
                       [("keep", "a"), ("put", "a"), ("keep", "b")]):
            self.assertIsNone(follow(reader, begin(reader), script))
        # The machine has this move, but no right row goes on behind it.
        self.assertIsNone(follow(Reader(DEAD_END, {}), begin(Reader(DEAD_END, {})), [("keep", "b")]))

    def test_bad_scripts(self):
        reader = Reader(ab(), {})
        for script, place in ((None, -1), ("keep", -1), ({}, -1), ([("keep", "a")] * 5001, -1), ([None], 0),
                              ([["keep", "a"]], 0), ([("keep", "b"), ("keep", "A")], 1), ([("keep", "c"), ("x", "a")], 1),
                              ([("keep", "a"), ("turn", "a", "a")], 1), ((("put", "b"),) * 4 + ((),), 4)):
            with self.assertRaises(BadScript) as caught:
                follow(reader, begin(reader), script)
            self.assertEqual(caught.exception.place, place)
        for value in odd_values():
            with self.assertRaises(BadScript) as caught:
                follow(reader, begin(reader), [("keep", "b"), value])
            self.assertEqual(caught.exception.place, 1)
            if not isinstance(value, (list, tuple)):
                with self.assertRaises(BadScript) as caught:
                    follow(reader, begin(reader), value)
                self.assertEqual(caught.exception.place, -1)

    def test_scripts_of_5000_edits(self):
        reader = Reader(ab(), {})
        script = [("turn", "b", "a"), ("keep", "b")] * 2500
        self.assertEqual(follow(reader, begin(reader), script), (begin(reader), 5000, 5000, 2500))
        self.assertEqual(len(script), 5000)

    def test_by_chance(self):
        chance = random.Random(62)
        for parts, table, hold, reader in plain.random_readers(62, 120, most_tokens=3):
            standing = (chance.choice(configurations(reader)), chance.choice(hopeful(reader.machine)))
            script = []
            here = standing
            for _ in range(chance.randint(0, 12)):
                step = chance.choice(steps(reader, here))
                script.append(step[0])
                here = step[1]
            expected = plain_sums(parts, table, hold, standing, script)
            self.assertEqual(follow(reader, standing, script), expected)
            self.assertEqual(follow(reader, standing, tuple(script)), expected)
            self.assertEqual(expected[0], here)
            self.assertEqual(expected[3], cost(script))
            strange = script + [("keep", chance.choice(parts[0])), ("put", chance.choice(parts[0]))]
            self.assertEqual(follow(reader, standing, strange), plain_sums(parts, table, hold, standing, strange))

    def test_the_sums_of_a_road_are_the_measure_of_its_source(self):
        chance = random.Random(63)
        roads = 0
        for parts, _, _, reader in plain.random_readers(63, 300):
            here, script = begin(reader), []
            for _ in range(chance.randint(0, 25)):
                step = chance.choice(steps(reader, here))
                script.append(step[0])
                here = step[1]
            last, tells, works, paid = follow(reader, begin(reader), script)
            end = ends(reader, last)
            if end is not None:
                roads += 1
                row = source(script)
                self.assertEqual(tells + end[0], len(told(reader, row)))
                self.assertEqual(works + end[1], mends(reader, row))
                self.assertEqual(paid, cost(script))
                self.assertIn(target(script), reader.machine)
        self.assertGreater(roads, 50)

    def test_the_script_stays_as_it_was(self):
        reader = Reader(ab(), {})
        script = [("turn", "b", "a"), ("keep", "b"), ("keep", "b")]
        follow(reader, begin(reader), script)
        self.assertEqual(script, [("turn", "b", "a"), ("keep", "b"), ("keep", "b")])


class Useful(unittest.TestCase):
    def test_ab(self):
        reader = Reader(ab(), {})
        self.assertEqual(useful(reader), [((one, (), 0), other) for one in "st" for other in "st"])

    def test_standings_to_which_no_step_leads_are_left_out(self):
        reader = Reader(DEAD_END, {})
        self.assertEqual(useful(reader), [((one, (), 0), other) for one in "qst" for other in "st"])

    def test_by_chance(self):
        for parts, table, hold, reader in plain.random_readers(64, 60, most_tokens=2, most_states=4):
            found = useful(reader)
            self.assertEqual(found, plain.plain_useful(parts, table, hold))
            self.assertEqual(found, [(one, other) for one in reachable(reader) for other in hopeful(reader.machine)])

    def test_puts_alone_lead_to_a_final_state(self):
        for parts, _, _, reader in plain.random_readers(65, 40, most_tokens=2, most_states=4):
            for standing in useful(reader):
                self.assertTrue(any(
                    follow(reader, standing, [("put", token) for token in row]) is not None
                    and plain_last(reader, standing, row) in parts[3] for row in all_rows(parts[0], 3)))

    def test_exactly_200(self):
        parts, table = parts_of_200()
        found = useful(long_reader(parts, table))
        self.assertEqual(len(found), 200)
        self.assertEqual(found, plain.plain_useful(parts, table, 3))

    def test_exactly_201(self):
        parts, table = parts_of_201()
        self.assertEqual(len(plain.plain_useful(parts, table, 3)), 201)
        with self.assertRaises(TooMany) as caught:
            useful(long_reader(parts, table))
        self.assertEqual(caught.exception.limit, 200)
        self.assertEqual(useful(long_reader(parts, table).with_hold(2)), plain.plain_useful(parts, table, 2))

    def test_the_other_functions_have_no_limit(self):
        reader = long_reader(*parts_of_201())
        self.assertEqual(len(steps(reader, begin(reader))), 9)
        self.assertEqual(follow(reader, begin(reader), [("keep", "a")]), ((("t", (), 0), "t"), 0, 0, 0))
        self.assertIsNone(ends(reader, begin(reader)))

    def test_a_changed_list_changes_nothing(self):
        reader = pass_reader()
        found = useful(reader)
        before = list(found)
        found.clear()
        self.assertEqual(useful(reader), before)

    def test_ends_are_the_ends_of_configurations(self):
        reader = pass_reader(hold=2)
        for standing in useful(reader):
            if standing[1] == "s":
                self.assertEqual(ends(reader, standing), at_end(reader, standing[0]))


def plain_last(reader, standing, row):
    """The state to which puts of a row lead."""
    return follow(reader, standing, [("put", token) for token in row])[0][1]
