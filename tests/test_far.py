"""Point 27: far rows against the rows written out, and far rows that are too long for that."""

import random
import unittest

from slipstold.edits import fewest
from slipstold.errors import NoFar, NoNumber
from slipstold.far import arrive_far, fewest_far, last_told, mends_far, told_far, told_place
from slipstold.machines import Machine
from slipstold.readers import Reader
from slipstold.readings import arrive, mends, told
from tests import plain
from tests.samples import ab, odd_values, random_machines

HUGE = 10 ** 30
READER_FUNCTIONS = (told_far, mends_far, arrive_far, last_told, lambda reader, far: told_place(reader, far, 0))


def written(far):
    """The row for which a far row stands."""
    u, v, n, x = far
    return (*u, *tuple(v) * n, *x)


def random_far(chance, tokens, longest=5, most=6):
    """A far row that is short enough to be written."""
    parts = [[chance.choice(list(tokens)) for _ in range(chance.randint(0, longest))] for _ in range(3)]
    u, v, x = [chance.choice((list, tuple))(part) for part in parts]
    return chance.choice((list, tuple))((u, v, chance.choice((0, 1, chance.randint(2, most))), x))


def answers(reader, far):
    """What all functions say of a far row."""
    return (told_far(reader, far), mends_far(reader, far), arrive_far(reader, far), last_told(reader, far),
            fewest_far(reader.machine, far))


def same_rows(far):
    """Other far rows that stand for the same row, if the number of copies is even and at least 2."""
    u, v, n, x = far
    return [((*u, *v), v, n - 1, x), (u, v, n - 1, (*v, *x)), ((*u, *v), v, n - 2, (*v, *x)),
            (u, (*v, *v), n // 2, x), (list(u), list(v), n, list(x))]


class Written(unittest.TestCase):
    def check(self, reader, far):
        row = written(far)
        places = told(reader, row)
        self.assertEqual(told_far(reader, far), len(places))
        self.assertEqual(mends_far(reader, far), mends(reader, row))
        self.assertEqual(arrive_far(reader, far), arrive(reader, row))
        self.assertEqual(fewest_far(reader.machine, far), fewest(reader.machine, row))
        self.assertEqual([told_place(reader, far, k) for k in range(len(places))], places)
        for k in (len(places), len(places) + 1, HUGE, 10 ** 60):
            self.assertIsNone(told_place(reader, far, k))
        self.assertEqual(last_told(reader, far), places[-1] if places else None)

    def test_worked_example(self):
        reader = Reader(ab(), {})
        self.assertEqual(told_far(reader, ((), ("b",), 10 ** 20, ())), 100000000000000000000)

    def test_parts_of_all_lengths(self):
        for hold in range(4):
            reader = Reader(ab(), {("s", "b"): ("pass", ("a",), "t")}, hold=hold)
            for u in ((), ("a",), ("b", "b"), ("a", "b")):
                for v in ((), ("a",), ("b",), ("a", "b"), ("b", "a", "a")):
                    for n in range(5):
                        for x in ((), ("a",), ("a", "a", "b")):
                            self.check(reader, (u, v, n, x))

    def test_readers_by_chance(self):
        chance = random.Random(601)
        for _, _, _, reader in plain.random_readers(601, 250):
            for _ in range(3):
                self.check(reader, random_far(chance, reader.machine.tokens()))

    def test_many_copies(self):
        chance = random.Random(602)
        for _, _, _, reader in plain.random_readers(602, 40):
            u, v, _, x = random_far(chance, reader.machine.tokens(), longest=6)
            for n in (7, 31, 32, 33, 64, 100):
                self.check(reader, (u, v, n, x))

    def test_machines_by_chance(self):
        chance = random.Random(603)
        for parts, machine in random_machines(603, 200):
            far = random_far(chance, parts[0], longest=7, most=30)
            self.assertEqual(fewest_far(machine, far), fewest(machine, written(far)))

    def test_states_that_are_not_hopeful(self):
        machine = Machine(["a", "b"], "s", {("s", "a"): "t", ("s", "b"): "q", ("t", "b"): "s", ("u", "a"): "t"}, ["t"])
        for n in range(6):
            for v in (("b",), ("a", "a"), ("b", "a", "b")):
                self.assertEqual(fewest_far(machine, (("b",), v, n, ("a",))),
                                 fewest(machine, written((("b",), v, n, ("a",)))))

    def test_the_end_is_told(self):
        reader = Reader(ab(), {})
        far = (("a", "b"), ("a", "b"), 5, ("a",))
        self.assertEqual(told_far(reader, far), 1)
        self.assertEqual(told_place(reader, far, 0), 13)
        self.assertEqual(last_told(reader, far), 13)
        self.assertIsNone(told_place(reader, far, 1))
        self.assertEqual(last_told(reader, ((), (), 0, ("a",))), 1)
        self.assertIsNone(last_told(reader, ((), (), 9, ())))

    def test_parts_of_200_tokens(self):
        reader = Reader(ab(), {("t", "a"): ("put", "b")}, hold=2)
        u, v, x = ("a", "b", "b", "a") * 50, ["a"] * 199 + ["b"], ("b",) * 200
        self.check(reader, (u, v, 3, x))


class TooLongToBeWritten(unittest.TestCase):
    def test_a_number_that_is_known(self):
        reader = Reader(ab(), {})
        far = (("a",), ("a",), HUGE, ("a", "b"))
        # All but the first and the last are told, and the last one is right.
        self.assertEqual(told_far(reader, far), HUGE + 1)
        self.assertEqual(mends_far(reader, far), HUGE + 1)
        self.assertEqual(arrive_far(reader, far), ("s", (), 0))
        self.assertEqual(told_place(reader, far, 0), 1)
        self.assertEqual(told_place(reader, far, HUGE - 1), HUGE)
        self.assertEqual(told_place(reader, far, HUGE), HUGE + 1)
        self.assertIsNone(told_place(reader, far, HUGE + 1))
        self.assertIsNone(told_place(reader, far, HUGE * HUGE))
        self.assertEqual(last_told(reader, far), HUGE + 1)
        # Of two tokens a one is turned to b; what is left of an odd number is dropped.
        self.assertEqual(fewest_far(ab(), ((), ("a",), HUGE, ())), HUGE // 2)
        self.assertEqual(fewest_far(ab(), far), HUGE // 2 + 1)

    def test_holds(self):
        for hold in range(4):
            reader = Reader(Machine(["b"], "s", {}, ["s"]), {}, hold=hold)
            far = ((), ("b",), HUGE, ("b",))
            self.assertEqual(told_far(reader, far), HUGE // (hold + 1) + 1)
            self.assertEqual(mends_far(reader, far), HUGE + 1)
            for k in (0, 1, 5, 10 ** 29, HUGE // (hold + 1)):
                self.assertEqual(told_place(reader, far, k), k * (hold + 1))
            self.assertEqual(fewest_far(reader.machine, far), HUGE + 1)

    def test_the_place_of_the_end(self):
        reader = Reader(ab(), {})
        far = ((), ("a", "b"), HUGE, ("a",))
        self.assertEqual(told_far(reader, far), 1)
        self.assertEqual(told_place(reader, far, 0), 2 * HUGE + 1)
        self.assertEqual(last_told(reader, far), 2 * HUGE + 1)
        self.assertIsNone(told_place(reader, far, 1))
        self.assertIsNone(last_told(reader, ((), ("a", "b"), HUGE, ())))
        # The end is quiet if an error was told just before it.
        self.assertEqual(last_told(reader.with_hold(1), ((), ("a", "b"), HUGE, ("a", "a"))), 2 * HUGE + 1)
        self.assertEqual(last_told(reader, ((), ("a", "b"), HUGE, ("a", "a"))), 2 * HUGE + 2)

    def test_an_error_behind_all_copies(self):
        reader = Reader(ab(), {}, hold=3)
        far = (("a", "b"), ("a", "b"), HUGE, ("a", "b", "b", "a"))
        self.assertEqual(told_place(reader, far, 0), 2 * HUGE + 4)
        self.assertEqual(last_told(reader, far), 2 * HUGE + 4)
        self.assertIsNone(told_place(reader, far, 1))

    def test_an_empty_middle(self):
        reader = Reader(ab(), {})
        self.assertEqual(answers(reader, (("a", "b"), (), HUGE, ("b",))), (1, 1, ("s", (), 0), 2, 1))
        self.assertEqual(answers(reader, ((), (), HUGE, ())), (0, 0, ("s", (), 0), None, 0))

    def test_the_same_row_told_in_other_ways(self):
        chance = random.Random(604)
        for _, _, _, reader in plain.random_readers(604, 60):
            u, v, _, x = random_far(chance, reader.machine.tokens())
            far = (u, v, chance.choice((HUGE, HUGE - 2, 2 ** 99, 12)), x)
            expected = answers(reader, far)
            many = expected[0]
            tries = [0, 1, 7, many // 3, many - 2, many - 1, many, many + 1, HUGE, 10 ** 40]
            places = [told_place(reader, far, max(0, k)) for k in tries]
            for other in same_rows(far):
                self.assertEqual(answers(reader, other), expected)
                self.assertEqual([told_place(reader, other, max(0, k)) for k in tries], places)
            if many > 0:
                self.assertEqual(told_place(reader, far, many - 1), expected[3])
            self.assertIsNone(told_place(reader, far, many))

    def test_places_grow(self):
        chance = random.Random(605)
        for _, _, _, reader in plain.random_readers(605, 30):
            u, v, _, x = random_far(chance, reader.machine.tokens())
            far = (u, v, HUGE, x)
            many = told_far(reader, far)
            numbers = sorted(k for k in {0, 1, 2, many // 5, many // 5 + 1, many // 2, many - 1} if 0 <= k < many)
            places = [told_place(reader, far, k) for k in numbers]
            self.assertEqual(places, sorted(set(places)))


class Errors(unittest.TestCase):
    def assert_no_far(self, part, far):
        for function in READER_FUNCTIONS:
            with self.assertRaises(NoFar) as caught:
                function(Reader(ab(), {}), far)
            self.assertEqual(caught.exception.part, part, far)
        with self.assertRaises(NoFar) as caught:
            fewest_far(ab(), far)
        self.assertEqual(caught.exception.part, part, far)
        for k in (None, -1, True):
            with self.assertRaises(NoFar):
                told_place(Reader(ab(), {}), far, k)

    def test_no_list_of_four_items(self):
        for value in odd_values() + [[], (), ((), (), 0), ((), (), 0, (), ()), ("a",) * 3, "abcd", b"abcd", {1, 2, 3, 4},
                                     {"u": (), "v": (), "n": 0, "x": ()}]:
            self.assert_no_far("far", value)

    def test_bad_parts(self):
        good = ("a", "b")
        bad = [value for value in odd_values() if value not in ([], ())] + [
            "a", "ab", ("c",), ("a", "c"), ["a", None], ("a",) * 201, ["b"] * 201, ("a",) * 2001, (("a",),), [["a"]]]
        for value in bad:
            self.assert_no_far("u", (value, good, 1, good))
            self.assert_no_far("v", (good, value, 1, good))
            self.assert_no_far("x", [good, good, 1, value])
            # The first of several.
            self.assert_no_far("u", [value, value, value, value])
            self.assert_no_far("v", (good, value, None, value))

    def test_bad_numbers(self):
        for value in odd_values() + [-1, True, False, HUGE + 1, 10 ** 40, "1", (1,)]:
            if not isinstance(value, int) or isinstance(value, bool) or not 0 <= value <= HUGE:
                self.assert_no_far("n", ((), (), value, ()))
                self.assert_no_far("n", (["a"], ("b",), value, None))

    def test_exact_limits(self):
        reader = Reader(ab(), {})
        full = ("a", "b") * 100
        self.assertEqual(told_far(reader, [full, full, HUGE, full]), 0)
        for place, part in ((0, "u"), (1, "v"), (3, "x")):
            far = [full, full, HUGE, full]
            far[place] = full + ("a",)
            self.assert_no_far(part, far)

    def test_bad_numbers_of_errors(self):
        reader = Reader(ab(), {})
        for value in odd_values() + [-1, -HUGE, True, False, "0", (0,), [0]]:
            if not isinstance(value, int) or isinstance(value, bool) or value < 0:
                with self.assertRaises(NoNumber):
                    told_place(reader, ((), ("b",), 3, ()), value)
        self.assertEqual(told_place(reader, ((), ("b",), 3, ()), 2), 2)

    def test_the_far_row_stays_as_it_was(self):
        far = [["a", "b"], ["b"], 3, ["a"]]
        reader = Reader(ab(), {})
        answers(reader, far)
        told_place(reader, far, 1)
        self.assertEqual(far, [["a", "b"], ["b"], 3, ["a"]])
