"""Point 28: what a row does to a reader wherever it begins, sums and repetitions of it."""

import copy
import random
import unittest

from slipstold.errors import NoConfiguration, NoNumber, NoRow, Unlike
from slipstold.far import arrive_far, mends_far, told_far
from slipstold.machines import Machine
from slipstold.readers import Reader
from slipstold.readings import after, arrive, configurations, first
from slipstold.summaries import Summary
from tests import plain
from tests.samples import ab, odd_values

HUGE = 10 ** 30


def pass_reader(hold=1):
    """A reader of AB that waits for a behind an error at s."""
    return Reader(ab(), {("s", "b"): ("pass", ["a"], "s"), ("t", "a"): ("put", "b")}, hold=hold)


def plain_value(parts, table, hold, configuration, row):
    """What the summary of a row has for a configuration, by the plain reading."""
    tells = works = 0
    for token in row:
        configuration, more_told, more_mends = plain.plain_after(parts, table, hold, configuration, token)
        tells += more_told
        works += more_mends
    return configuration, tells, works


def values(summary):
    """All values of a summary."""
    return {start: summary[start] for start in configurations(summary.reader)}


def random_row(chance, tokens, longest=6):
    return tuple(chance.choice(list(tokens)) for _ in range(chance.randint(0, longest)))


class Values(unittest.TestCase):
    def test_a_row_of_ab(self):
        reader = Reader(ab(), {}, hold=1)
        summary = Summary(reader, ("a", "a"))
        self.assertEqual(summary.reader, reader)
        self.assertEqual(summary["s", (), 0], (("t", (), 1), 1, 1))
        self.assertEqual(summary["s", (), 1], (("t", (), 1), 1, 1))
        self.assertEqual(summary["t", (), 0], (("t", (), 0), 1, 2))
        self.assertEqual(summary["t", (), 1], (("t", (), 1), 1, 2))

    def test_the_empty_row(self):
        for row in ((), []):
            summary = Summary(pass_reader(), row)
            for start in configurations(pass_reader()):
                self.assertEqual(summary[start], (start, 0, 0))

    def test_readers_by_chance(self):
        chance = random.Random(701)
        for parts, table, hold, reader in plain.random_readers(701, 150):
            row = random_row(chance, parts[0], 8)
            summary = Summary(reader, chance.choice((list, tuple))(row))
            for start in configurations(reader):
                self.assertEqual(summary[start], plain_value(parts, table, hold, start, row))
            self.assertEqual(summary[first(reader)][0], arrive(reader, row))

    def test_rows_of_one_token(self):
        reader = pass_reader(2)
        for token in "ab":
            for start in configurations(reader):
                self.assertEqual(Summary(reader, [token])[start], after(reader, start, token))

    def test_a_row_of_2000_tokens(self):
        reader = pass_reader(3)
        row = ["a", "b", "b", "a"] * 500
        summary = Summary(reader, row)
        self.assertEqual(summary[first(reader)][0], arrive(reader, row))

    def test_a_changed_list_changes_nothing(self):
        row = ["a", "a"]
        summary = Summary(pass_reader(), row)
        before = values(summary)
        row.append("b")
        row[0] = None
        self.assertEqual(values(summary), before)


class Errors(unittest.TestCase):
    def test_no_configuration(self):
        reader = pass_reader()
        for summary in (Summary(reader, ("a", "b")), Summary(reader, ()) + Summary(reader, ["b"]),
                        5 * Summary(reader, ("b",))):
            for value in odd_values() + [
                    "s", ("s",), ("s", ()), ("s", (), 2), ("s", (), -1), ("s", (), True), ("s", (), None), ("s", [], 0),
                    ["s", (), 0], ("x", (), 0), (None, (), 0), ("t", ("a",), 0), ("s", ("b",), 0), ("s", ["a"], 0),
                    ("s", ("a", "a"), 0), ("s", "a", 0), ("s", (), 0, 0), (("s", (), 0),), ("s", (["a"],), 0), slice(0, 1)]:
                with self.assertRaises(NoConfiguration):
                    summary[value]
            for value in odd_values():
                for at in ((value, (), 0), ("s", value, 0), ("s", (value,), 0)):
                    with self.assertRaises(NoConfiguration):
                        summary[at]

    def test_no_row(self):
        for row, place in (("ab", -1), (None, -1), ({}, -1), (("a",) * 2001, -1), (("a", "c"), 1), ([None], 0),
                           (["a", "b", ["a"]], 2), (("a", "b", ("a",)), 2)):
            with self.assertRaises(NoRow) as caught:
                Summary(pass_reader(), row)
            self.assertEqual(caught.exception.place, place)
        for value in odd_values():
            with self.assertRaises(NoRow) as caught:
                Summary(pass_reader(), ["a", value])
            self.assertEqual(caught.exception.place, 1)
            if not isinstance(value, (list, tuple)):
                with self.assertRaises(NoRow) as caught:
                    Summary(pass_reader(), value)
                self.assertEqual(caught.exception.place, -1)
        with self.assertRaises(NoRow) as caught:
            Summary(pass_reader(), Summary(pass_reader(), ()))
        self.assertEqual(caught.exception.place, -1)

    def test_it_is_not_iterated_over(self):
        with self.assertRaises(TypeError):
            list(Summary(pass_reader(), ("a",)))


class Sums(unittest.TestCase):
    def test_rows_by_chance(self):
        chance = random.Random(702)
        for parts, _, _, reader in plain.random_readers(702, 80):
            u, v, x = [random_row(chance, parts[0]) for _ in range(3)]
            one, two, three = Summary(reader, u), Summary(reader, v), Summary(reader, x)
            before = [values(summary) for summary in (one, two, three)]
            self.assertEqual(values(one + two), values(Summary(reader, u + v)))
            self.assertTrue((one + two) + three == one + (two + three) == Summary(reader, u + v + x))
            self.assertEqual([values(summary) for summary in (one, two, three)], before)
            self.assertEqual((one + two).reader, reader)

    def test_in_place(self):
        reader = pass_reader()
        one, two = Summary(reader, ("a",)), Summary(reader, ("b", "b"))
        also = one
        kept = [one]
        one += two
        self.assertIs(one, also)
        self.assertIs(kept[0], one)
        self.assertEqual(values(also), values(Summary(reader, ("a", "b", "b"))))
        self.assertEqual(values(two), values(Summary(reader, ("b", "b"))))
        kept[0] += two
        self.assertEqual(values(also), values(Summary(reader, ("a", "b", "b", "b", "b"))))
        # What was made of it before stays as it was.
        total = also + two
        before = values(total)
        also += total
        self.assertEqual(values(total), before)

    def test_a_summary_added_to_itself(self):
        reader = pass_reader()
        one = Summary(reader, ("a", "b", "b"))
        double = one + one
        self.assertEqual(values(double), values(Summary(reader, ("a", "b", "b") * 2)))
        also = one
        one += one
        self.assertIs(one, also)
        self.assertEqual(values(one), values(double))
        one += one
        self.assertEqual(values(also), values(Summary(reader, ("a", "b", "b") * 4)))

    def test_an_equal_reader_made_anew(self):
        one, two = Summary(pass_reader(), ("a",)), Summary(pass_reader(), ("b",))
        self.assertEqual(values(one + two), values(Summary(pass_reader(), ("a", "b"))))
        one += two
        self.assertEqual(values(one), values(Summary(pass_reader(), ("a", "b"))))

    def test_unlike(self):
        reader = pass_reader()
        others = [pass_reader(2), Reader(ab(), {}, hold=1), reader.with_action("t", "a", ("skip",)),
                  Reader(Machine(("a", "b"), "t", ab().moves(), ("s",)), reader.table(), hold=1)]
        for other in others:
            one, two = Summary(reader, ("a", "b")), Summary(other, ("b",))
            before = values(one), values(two)
            for left, right in ((one, two), (two, one)):
                with self.assertRaises(Unlike):
                    left + right
                with self.assertRaises(Unlike):
                    left += right
                with self.assertRaises(Unlike):
                    left.no_more_than(right)
                self.assertFalse(left == right)
            self.assertEqual((values(one), values(two)), before)


class Repetitions(unittest.TestCase):
    def test_small_numbers(self):
        chance = random.Random(703)
        for parts, _, _, reader in plain.random_readers(703, 60):
            row = random_row(chance, parts[0], 4)
            summary = Summary(reader, row)
            before = values(summary)
            for n in (0, 1, 2, 3, 7, 20):
                expected = values(Summary(reader, row * n))
                self.assertEqual(values(n * summary), expected)
                self.assertEqual(values(summary * n), expected)
            self.assertEqual(values(summary), before)

    def test_huge_numbers(self):
        chance = random.Random(704)
        for parts, _, _, reader in plain.random_readers(704, 40):
            row = random_row(chance, parts[0], 5)
            for n in (HUGE, HUGE - 1, 2 ** 80):
                found = (n * Summary(reader, row))[first(reader)]
                self.assertEqual(found[0], arrive_far(reader, ((), row, n, ())))
                end = 1 if found[0][0] not in parts[3] else 0
                self.assertEqual(found[2] + end, mends_far(reader, ((), row, n, ())))
                self.assertIn(told_far(reader, ((), row, n, ())) - found[1], (0, end))
            summary = Summary(reader, row)
            self.assertTrue(HUGE * summary == summary * HUGE == (HUGE // 2) * (summary + summary))
            self.assertTrue(HUGE * summary + summary == summary + summary * HUGE)

    def test_a_product_is_a_new_object(self):
        summary = Summary(pass_reader(), ("b",))
        for n in (0, 1, 2):
            for product in (n * summary, summary * n):
                self.assertIsNot(product, summary)
                before = values(summary)
                product += summary
                self.assertEqual(values(summary), before)
        summary *= 2
        self.assertEqual(values(summary), values(Summary(pass_reader(), ("b", "b"))))

    def test_no_number(self):
        summary = Summary(pass_reader(), ("b",))
        for value in odd_values() + [-1, HUGE + 1, 10 ** 40, True, False, "2", [2], (2,), {2: 2}, b"2", summary, range(2)]:
            if not isinstance(value, int) or isinstance(value, bool) or not 0 <= value <= HUGE:
                with self.assertRaises(NoNumber):
                    summary * value
                with self.assertRaises(NoNumber):
                    value * summary
        self.assertEqual(values(summary), values(Summary(pass_reader(), ("b",))))


class Equality(unittest.TestCase):
    def test_other_rows_that_do_the_same(self):
        reader = Reader(ab(), {})
        one, two = Summary(reader, ("a", "b", "a")), Summary(reader, ("a", "b", "a"))
        self.assertTrue(one == two)
        self.assertFalse(one != two)
        full = Reader(Machine(["a", "b"], "s", {("s", "a"): "s", ("s", "b"): "s"}, ["s"]), {}, hold=1)
        self.assertTrue(Summary(full, ("a", "a")) == Summary(full, ("b", "b", "b")))
        self.assertTrue(HUGE * Summary(full, ("a",)) == Summary(full, ("b",) * 9))
        self.assertTrue(Summary(full, ("a",)) != Summary(full, ()))

    def test_different_summaries(self):
        reader = pass_reader()
        self.assertTrue(Summary(reader, ("a",)) != Summary(reader, ("b",)))
        self.assertFalse(Summary(reader, ("a",)) == Summary(reader, ("b",)))
        self.assertTrue(Summary(reader, ("a",)) == Summary(pass_reader(), ["a"]))
        self.assertTrue(Summary(reader, ("a",)) != Summary(pass_reader(2), ("a",)))
        # The final states matter at the end of a row alone, but they make another reader.
        other = Reader(Machine(("a", "b"), "s", ab().moves(), ("s", "t")), reader.table(), hold=1)
        self.assertEqual(values(Summary(reader, ("b", "a"))), values(Summary(other, ("b", "a"))))
        self.assertFalse(Summary(reader, ("b", "a")) == Summary(other, ("b", "a")))
        # They differ in mends alone.
        machine = Machine(["a", "b", "c", "d"], "s", {("s", "c"): "t", ("t", "d"): "s"}, ["s"])
        counting = Reader(machine, {("s", "b"): ("put", "c"), ("t", "a"): ("take", "d"), ("t", "b"): ("take", "d")})
        one, two = Summary(counting, ("a",)), Summary(counting, ("b",))
        self.assertEqual([one["t", (), 0], two["t", (), 0]], [(("s", (), 0), 1, 1)] * 2)
        self.assertEqual([one["s", (), 0], two["s", (), 0]], [(("s", (), 0), 1, 1), (("s", (), 0), 1, 2)])
        self.assertFalse(one == two)

    def test_by_chance(self):
        chance = random.Random(705)
        equal = 0
        for parts, _, _, reader in plain.random_readers(705, 300, most_tokens=2, most_states=3):
            one, two = [Summary(reader, random_row(chance, parts[0], 3)) for _ in range(2)]
            expected = values(one) == values(two)
            equal += expected
            self.assertIs(one == two, expected)
            self.assertIs(one != two, not expected)
        self.assertGreater(equal, 20)
        self.assertLess(equal, 280)

    def test_values_of_built_in_kinds(self):
        summary = Summary(pass_reader(), ("a",))
        for value in odd_values() + [values(summary), [], "a", ("a",)]:
            self.assertIs(summary == value, False)
            self.assertIs(value == summary, False)
            self.assertIs(summary != value, True)


class NoMoreThan(unittest.TestCase):
    def test_by_chance(self):
        chance = random.Random(706)
        answers = {True: 0, False: 0}
        for parts, _, _, reader in plain.random_readers(706, 300, most_tokens=3, most_states=4):
            one, two = [Summary(reader, random_row(chance, parts[0], 5)) for _ in range(2)]
            expected = all(one[start][1] <= two[start][1] for start in configurations(reader))
            self.assertIs(one.no_more_than(two), expected)
            self.assertIs(one.no_more_than(one), True)
            self.assertIs(Summary(reader, ()).no_more_than(two), True)
            answers[expected] += 1
        self.assertGreater(min(answers.values()), 50)

    def test_huge_numbers(self):
        summary = Summary(Reader(ab(), {}), ("b",))
        self.assertTrue((HUGE * summary).no_more_than(HUGE * summary))
        self.assertTrue(((HUGE - 1) * summary).no_more_than(HUGE * summary))
        self.assertFalse((HUGE * summary).no_more_than((HUGE - 1) * summary))


class TheReader(unittest.TestCase):
    def test_it_is_the_reader_that_was_given(self):
        reader = pass_reader()
        self.assertIs(Summary(reader, ()).reader, reader)
        copied = copy.deepcopy(reader)
        self.assertEqual((Summary(reader, ()) + Summary(copied, ())).reader, reader)
