"""Points 31 and 32: machines and readers as texts."""

import random
import unittest

from slipstold.errors import BadMachine, BadReader, BadRing, NoText
from slipstold.machines import Machine
from slipstold.readers import Reader
from slipstold.texts import machine_text, read_machine, read_reader, reader_text
from tests import plain
from tests.samples import ab, odd_values, random_machines

AB = ["tokens a b", "start s", "move s a t", "move t b s", "final s"]
WITH_TABLE = AB + ["hold 2", "on s b pass t a b", "on t a put b"]
BAD_NAMES = ["", "A", "a1", "abcdefghi", "a-b", "aB", "1", ".", "a\t", "\r", "_"]


def text(lines):
    return "\n".join(lines)


def pass_reader():
    return Reader(ab(), {("s", "b"): ("pass", ["b", "a"], "t"), ("t", "a"): ("put", "b")}, hold=2)


class Case(unittest.TestCase):
    def assert_bad(self, line, lines, *functions):
        for function in functions or (read_machine, read_reader):
            with self.assertRaises(NoText) as caught:
                function(lines if isinstance(lines, str) else text(lines))
            self.assertEqual(caught.exception.line, line, lines)

    def assert_part(self, error, part, function, lines):
        with self.assertRaises(error) as caught:
            function(text(lines))
        self.assertEqual(caught.exception.part, part, lines)


class Writing(unittest.TestCase):
    def test_worked_example(self):
        self.assertEqual(machine_text(ab()), "tokens a b\nstart s\nmove s a t\nmove t b s\nfinal s")

    def test_everything_is_sorted(self):
        machine = Machine(["c", "a", "b"], "t", {("t", "c"): "s", ("s", "b"): "t", ("t", "a"): "r", ("s", "a"): "s"},
                          ("t", "r"))
        lines = ["tokens a b c", "start t", "move s a s", "move s b t", "move t a r", "move t c s", "final r t"]
        self.assertEqual(machine_text(machine), text(lines))
        reader = Reader(machine, {("t", "b"): ("pass", ["c", "b", "a"], "s"), ("r", "c"): ("jump", "t"),
                                  ("s", "c"): ["take", "b"], ("r", "a"): ["pass", ("b",), "r"]}, hold=3)
        lines += ["hold 3", "on r a pass r b", "on r b skip", "on r c jump t", "on s c take b", "on t b pass s a b c"]
        # A pass that looks again at b leads on to s, which has a move.
        self.assertEqual(reader_text(reader), text(lines))

    def test_each_action(self):
        self.assertEqual(reader_text(pass_reader()), text(WITH_TABLE))
        self.assertEqual(reader_text(Reader(ab(), {})), text(AB + ["hold 0", "on s b skip", "on t a skip"]))
        reader = Reader(ab(), {("s", "b"): ["take", "a"], ("t", "a"): ("jump", "s")}, hold=1)
        self.assertEqual(reader_text(reader), text(AB + ["hold 1", "on s b take a", "on t a jump s"]))

    def test_no_moves_and_no_pairs(self):
        machine = Machine(["a"], "s", {}, ["s"])
        self.assertEqual(machine_text(machine), "tokens a\nstart s\nfinal s")
        full = Machine(["a"], "s", {("s", "a"): "s"}, ["s"])
        self.assertEqual(reader_text(Reader(full, {})), "tokens a\nstart s\nmove s a s\nfinal s\nhold 0")

    def test_words_that_are_names_and_words_of_the_form(self):
        machine = Machine(["on", "final"], "move", {("move", "on"): "hold", ("hold", "final"): "move"}, ["move"])
        reader = Reader(machine, {("move", "final"): ("jump", "hold"), ("hold", "on"): ("pass", ["on"], "move")})
        lines = ["tokens final on", "start move", "move hold final move", "move move on hold", "final move", "hold 0",
                 "on hold on pass move on", "on move final jump hold"]
        self.assertEqual(reader_text(reader), text(lines))
        self.assertEqual(read_reader(text(lines)), reader)


class RoundTrips(unittest.TestCase):
    def test_machines(self):
        for _, machine in random_machines(901, 300):
            written = machine_text(machine)
            self.assertEqual(read_machine(written), machine)
            self.assertEqual(machine_text(read_machine(written)), written)

    def test_readers(self):
        for _, _, _, reader in plain.random_readers(902, 400):
            written = reader_text(reader)
            found = read_reader(written)
            self.assertEqual(found, reader)
            self.assertEqual((found.machine, found.table(), found.hold), (reader.machine, reader.table(), reader.hold))
            self.assertEqual(reader_text(found), written)

    def test_items_in_any_order_and_pairs_without_a_line(self):
        chance = random.Random(903)
        for _, _, _, reader in plain.random_readers(903, 200):
            lines = reader_text(reader).split("\n")
            tokens, start = lines[:2]
            moves = [line for line in lines if line.startswith("move ")]
            final = [line for line in lines if line.startswith("final ")][0]
            behind = lines[lines.index(final) + 1:]
            pairs = [line for line in behind[1:] if not line.endswith(" skip") or chance.random() < 0.5]
            chance.shuffle(moves)
            chance.shuffle(pairs)
            changed = [shuffled(chance, tokens, 1), start] + moves + [shuffled(chance, final, 1), behind[0]]
            changed += [shuffled(chance, line, 5) if line.split(" ")[3] == "pass" else line for line in pairs]
            self.assertEqual(read_reader(text(changed)), reader)
            self.assertEqual(read_machine(text(changed[:3 + len(moves)])), reader.machine)

    def test_the_longest_words(self):
        tokens = ["abcdefgh", "bcdefghi", "cdefghij", "defghijk"]
        states = ["s" * 8, "t" * 8, "u" * 8, "v" * 8, "w" * 8, "x" * 8]
        machine = Machine(tokens, states[0], {(states[0], tokens[0]): states[0]}, states)
        table = {(state, token): ("pass", tokens, states[0]) for state in states for token in tokens
                 if (state, token) != (states[0], tokens[0])}
        # A pass that always looks again would ring at the first state.
        table = {pair: ("skip",) if pair[0] == states[0] else table[pair] for pair in table}
        reader = Reader(machine, table, hold=3)
        self.assertLess(len(reader_text(reader)), 5000)
        self.assertEqual(read_reader(reader_text(reader)), reader)


def shuffled(chance, line, fixed):
    """The line with its words behind the first ones in another order."""
    words = line.split(" ")
    later = words[fixed:]
    chance.shuffle(later)
    return " ".join(words[:fixed] + later)


class BadValues(Case):
    def test_no_string(self):
        for value in odd_values() + [text(AB).encode(), AB, tuple(AB), [text(AB)]]:
            if not isinstance(value, str):
                for function in (read_machine, read_reader):
                    with self.assertRaises(NoText) as caught:
                        function(value)
                    self.assertEqual(caught.exception.line, 0)

    def test_the_empty_string(self):
        self.assert_bad(1, "")
        self.assert_bad(1, "\n")
        self.assert_bad(1, " ")

    def test_5000_characters(self):
        lines = ["tokens a", "start s", "final s"]
        # As many different finals as fit: a text of the right form, whatever the machine says of it.
        names = [one + two + three for one in "abcdefghijklm" for two in "abcdefghijklmnopqrst" for three in "abcdef"]
        full = text(lines[:2]) + "\nfinal"
        while len(full) < 4996:
            full += " " + names.pop()
        full += " " + "q" * (4999 - len(full))
        self.assertEqual(len(full), 5000)
        self.assert_part(BadMachine, "finals", read_machine, full.split("\n"))
        self.assert_bad(0, full + "q")
        self.assert_bad(0, "x" * 5001)
        self.assert_bad(1, "x" * 5000)
        self.assert_bad(0, "\n" * 5001)
        self.assert_bad(1, "\n" * 5000)

    def test_a_reader_of_5000_characters_and_one_more(self):
        lines = text(AB + ["hold 0"] + ["on s b skip"])
        more = "\non " + "a" * (4999 - len(lines) - 4)
        self.assertEqual(len(lines + more) + 1, 5000)
        self.assert_bad(8, lines + more + "x", read_reader)
        self.assert_bad(0, lines + more + "xx", read_reader)


class BadLines(Case):
    def test_each_line_left_out(self):
        for place in range(len(AB)):
            lines = AB[:place] + AB[place + 1:]
            if not AB[place].startswith("move"):
                self.assert_bad(place + 1, lines, read_machine)
        for place, line in enumerate(WITH_TABLE):
            if line.split(" ")[0] in ("tokens", "start", "final", "hold"):
                self.assert_bad(place + 1, WITH_TABLE[:place] + WITH_TABLE[place + 1:], read_reader)

    def test_a_text_that_ends_too_early(self):
        for many in range(1, 5):
            self.assert_bad(many + 1, AB[:many])
        self.assert_bad(6, AB, read_reader)
        read_machine(text(AB))
        read_reader(text(AB + ["hold 0"]))

    def test_lines_behind_the_end(self):
        self.assert_bad(6, AB + [""], read_machine)
        self.assert_bad(6, AB + ["hold 0"], read_machine)
        self.assert_bad(6, AB + ["final s"], read_machine)
        self.assert_bad(6, AB + ["move s b t", "x"], read_machine)
        self.assert_bad(9, WITH_TABLE + [""], read_reader)
        self.assert_bad(9, WITH_TABLE + ["hold 1"], read_reader)
        self.assert_bad(7, AB + ["hold 0", ""], read_reader)

    def test_a_newline_at_the_end(self):
        self.assert_bad(6, text(AB) + "\n", read_machine)
        self.assert_bad(6, text(AB) + "\n", read_reader)
        self.assert_bad(9, text(WITH_TABLE) + "\n", read_reader)

    def test_a_line_too_much_at_each_place(self):
        for extra in ("", "x", "tokens", "tokens a", "tokens a b", "start s", "start", "final s", "final", "hold 0", "hold",
                      "on s b skip", "on", "move", "move s", "move s a", "move s a t u"):
            for place in range(len(WITH_TABLE) + 1):
                lines = WITH_TABLE[:place] + [extra] + WITH_TABLE[place:]
                if extra == "final s" and place in (2, 3, 4):
                    # This final line is due there, and the next one is not.
                    self.assert_bad(place + 2, lines, read_reader)
                elif extra == "hold 0" and place == 5:
                    self.assert_bad(7, lines, read_reader)
                elif extra == "on s b skip" and place in (6, 7, 8):
                    self.assert_bad(8 if place == 6 else place + 1, lines, read_reader)
                elif extra == "tokens a b" and place == 0 or extra == "tokens a" and place == 0:
                    self.assert_bad(2, lines, read_reader)
                elif extra == "start s" and place == 1:
                    self.assert_bad(3, lines, read_reader)
                else:
                    self.assert_bad(place + 1, lines, read_reader)

    def test_bad_words_at_each_place(self):
        for name in BAD_NAMES:
            for place, line in enumerate(WITH_TABLE):
                words = line.split(" ")
                for at in range(len(words)):
                    if words[0] == "hold" and at == 1 and name == "1":
                        continue
                    changed = " ".join(words[:at] + [name] + words[at + 1:])
                    lines = WITH_TABLE[:place] + [changed] + WITH_TABLE[place + 1:]
                    self.assert_bad(place + 1, lines, read_reader)
                    if place < len(AB):
                        self.assert_bad(place + 1, lines[:len(AB)], read_machine)

    def test_spaces(self):
        for place, line in enumerate(WITH_TABLE):
            for changed in (" " + line, line + " ", line.replace(" ", "  ", 1), line.replace(" ", "\t", 1), line + "\r",
                            "  ".join(line.rsplit(" ", 1))):
                lines = WITH_TABLE[:place] + [changed] + WITH_TABLE[place + 1:]
                self.assert_bad(place + 1, lines, read_reader)
                if place < len(AB):
                    self.assert_bad(place + 1, lines[:len(AB)], read_machine)

    def test_the_worked_example(self):
        self.assert_bad(3, "tokens a b\nstart s\nfinal  s")

    def test_the_number_of_words(self):
        for line, place in (("tokens", 0), ("start", 1), ("start s t", 1), ("move s a", 2), ("move s a t t", 2),
                            ("move", 2), ("final", 4), ("hold", 5), ("hold 0 0", 5), ("hold 00", 5), ("hold 4", 5),
                            ("hold -1", 5), ("hold a", 5), ("on", 6), ("on s", 6), ("on s b", 6), ("on s b skip a", 6),
                            ("on s b put", 6), ("on s b put a a", 6), ("on s b take", 6), ("on s b take a a", 6),
                            ("on s b jump", 6), ("on s b jump t t", 6), ("on s b pass", 6), ("on s b pass t", 6),
                            ("on s b move t", 6), ("on s b go", 6), ("on s b go t", 6), ("on s b go t a", 6),
                            ("ons b skip", 6), ("On s b skip", 6), ("on s b Skip", 6)):
            lines = WITH_TABLE[:place] + [line] + WITH_TABLE[place + 1:]
            self.assert_bad(place + 1, lines, read_reader)
            if place < len(AB):
                self.assert_bad(place + 1, lines[:len(AB)], read_machine)

    def test_the_same_pair_twice(self):
        for line in ("move s a t", "move s a s", "move s a q"):
            self.assert_bad(5, AB[:4] + [line] + AB[4:], read_machine)
            self.assert_bad(5, AB[:4] + [line] + WITH_TABLE[4:], read_reader)
        for line in ("on s b skip", "on s b pass t a b", "on s b put a"):
            self.assert_bad(9, WITH_TABLE + [line], read_reader)
        # Also pairs that make no reader.
        self.assert_bad(8, AB + ["hold 0", "on x y skip", "on x y skip"], read_reader)
        # A move line and an on line with one pair are of different kinds.
        self.assert_part(BadReader, "table", read_reader, AB + ["hold 0", "on s a skip"])

    def test_the_first_bad_line(self):
        bad = ["tokens", "start", "move", "x", "final"]
        for first in range(5):
            self.assert_bad(first + 1, AB[:first] + bad[first:])
        self.assert_bad(3, AB[:2] + ["move s a T", "move s a t", "move s a t"])


class BadParts(Case):
    def test_the_form_comes_first(self):
        for lines in (["tokens a a", "start s", "final s", "x"], ["tokens a b c d e", "start s", "final t", ""]):
            self.assert_bad(4, lines)
        self.assert_bad(5, ["tokens a a", "start s", "final s", "hold 0", "on"], read_reader)
        self.assert_bad(6, ["tokens a", "start s", "final s", "hold 0", "on s a put a", "on s b"], read_reader)

    def test_bad_machines(self):
        for part, lines in (
                ("tokens", ["tokens a b a", "start s", "final s"]), ("tokens", ["tokens a b c d e", "start s", "final s"]),
                ("tokens", ["tokens a a", "start s", "move s b t", "final t t"]),
                ("moves", ["tokens a", "start s", "move s b t", "final s"]),
                ("moves", ["tokens a", "start s", "move s b t", "final s s"]),
                ("finals", ["tokens a", "start s", "final s s"]), ("finals", ["tokens a", "start s", "final t"]),
                ("finals", ["tokens a", "start s", "final s t u v w x y"]),
                ("size", ["tokens a", "start s", "move t a u", "final s v w x y"])):
            self.assert_part(BadMachine, part, read_machine, lines)
            self.assert_part(BadMachine, part, read_reader, lines + ["hold 0"])
            # Then the reader's own lines do not matter.
            self.assert_part(BadMachine, part, read_reader, lines + ["hold 3", "on x y put z"])

    def test_bad_readers(self):
        for line in ("on s a skip", "on x b skip", "on s c skip", "on s b put b", "on s b take c", "on s b jump s",
                     "on s b jump q", "on s b pass t c", "on s b pass q a", "on s b pass t a a",
                     "on s b pass t a b c d e"):
            self.assert_part(BadReader, "table", read_reader, AB + ["hold 1", line])
            self.assert_part(BadReader, "table", read_reader, AB + ["hold 1", "on t a pass t a", line])

    def test_rings(self):
        for lines, state, token in ((["on s b pass s b"], "s", "b"), (["on t a pass t a", "on s b pass s b"], "s", "b"),
                                    (["on t a pass t a"], "t", "a")):
            with self.assertRaises(BadRing) as caught:
                read_reader(text(AB + ["hold 0"] + lines))
            self.assertEqual((caught.exception.state, caught.exception.token), (state, token))

    def test_all_holds(self):
        for hold in range(4):
            self.assertEqual(read_reader(text(AB + [f"hold {hold}"])), Reader(ab(), {}, hold=hold))
