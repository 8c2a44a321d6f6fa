"""Points 29 and 30: a row that grows and changes, fed rows, trials, and blocks behind which the row is as it was."""

import inspect
import random
import unittest

from slipstold.errors import NoPlace, NoRow, Unlike
from slipstold.live import Reading, rehearse
from slipstold.readers import Reader
from slipstold.readings import arrive, mends, told
from tests import plain
from tests.samples import ab, odd_values


def reader(hold=0):
    return Reader(ab(), {("s", "b"): ("pass", ("a",), "t")}, hold=hold)


def read(row, hold=0):
    """A reading that holds this row."""
    reading = Reading(reader(hold))
    for token in row:
        reading += token
    return reading


class Case(unittest.TestCase):
    def assert_row(self, reading, row):
        self.assertEqual(reading.row(), tuple(row))
        self.assertEqual(len(reading), len(row))
        self.assertEqual([reading[k] for k in range(len(row))], list(row))

    def assert_no_row(self, place, function, *arguments):
        with self.assertRaises(NoRow) as caught:
            function(*arguments)
        self.assertEqual(caught.exception.place, place)

    def assert_no_place(self, value, function, *arguments):
        with self.assertRaises(NoPlace) as caught:
            function(*arguments)
        self.assertIs(caught.exception.place, value)


def append(reading, token):
    reading += token


def replace(reading, k, token):
    reading[k] = token


class Rows(Case):
    def test_a_new_reading(self):
        base = reader(2)
        reading = Reading(base)
        self.assertIs(reading.reader, base)
        self.assert_row(reading, ())
        self.assertIs(type(reading.row()), tuple)
        self.assertEqual(reading.told(), told(base, ()))
        self.assertEqual(reading.mends(), 0)
        self.assertEqual(reading.arrived(), ("s", (), 0))

    def test_by_chance_against_a_list_with_two_readings_of_one_reader(self):
        chance = random.Random(801)
        for parts, _, _, base in plain.random_readers(801, 60):
            readings, lists = [Reading(base), Reading(base)], [[], []]
            for _ in range(40):
                which = chance.randint(0, 1)
                reading, row = readings[which], lists[which]
                self.change(chance, parts[0], reading, row)
                for other, expected in zip(readings, lists):
                    self.assert_row(other, expected)
                    self.assertEqual(other.told(), told(base, expected))
                    self.assertEqual(other.mends(), mends(base, expected))
                    self.assertEqual(other.arrived(), arrive(base, expected))

    def change(self, chance, tokens, reading, row):
        token, kind = chance.choice(list(tokens)), chance.randint(0, 4)
        if kind == 0 and row:
            k = chance.randrange(len(row))
            reading[k] = token
            row[k] = token
        elif kind == 1 and row:
            k = chance.randrange(len(row))
            self.assertEqual(reading.drop_at(k), row.pop(k))
        else:
            same = reading
            reading += token
            self.assertIs(same, reading)
            row.append(token)

    def test_in_place_under_every_name(self):
        reading = Reading(reader())
        also, kept = reading, [reading]
        reading += "a"
        also += "b"
        kept[0] += "b"
        self.assertIs(kept[0], reading)
        for name in (reading, also, kept[0]):
            self.assert_row(name, "abb")

    def test_answers_are_new(self):
        reading = read("abb")
        places = reading.told()
        places.append(9)
        self.assertEqual(reading.told(), told(reader(), "a b b".split()))
        row = reading.row()
        reading += "a"
        self.assertEqual(row, ("a", "b", "b"))

    def test_a_bad_token(self):
        for row in ((), ("a",), ("a", "b") * 99):
            for value in odd_values() + ["c", "s", "ab", "A", ["a"], ("a",), b"a"]:
                reading = read(row)
                self.assert_no_row(len(row), append, reading, value)
                self.assert_row(reading, row)

    def test_200_tokens(self):
        reading = read(("a", "b") * 99 + ("a",))
        self.assertEqual(len(reading), 199)
        reading += "b"
        self.assertEqual(len(reading), 200)
        for token in ("a", "c", None):
            self.assert_no_row(200, append, reading, token)
        self.assertEqual(len(reading), 200)
        reading[199] = "a"
        self.assertEqual(reading.told(), told(reader(), reading.row()))
        reading.drop_at(0)
        reading += "a"
        self.assert_no_row(200, append, reading, "a")

    def test_it_is_not_iterated_over(self):
        with self.assertRaises(TypeError):
            list(read("ab"))


class Places(Case):
    def test_no_place(self):
        for row in ((), ("a",), ("a", "b", "b")):
            values = odd_values() + [-1, len(row), len(row) + 1, True, False, None, "0", [0], (0,), slice(0, 1), 10 ** 30]
            for value in values:
                if isinstance(value, int) and not isinstance(value, bool) and 0 <= value < len(row):
                    continue
                reading = read(row)
                self.assert_no_place(value, reading.__getitem__, value)
                self.assert_no_place(value, reading.drop_at, value)
                for token in ("a", "c", None, [1]):
                    self.assert_no_place(value, replace, reading, value, token)
                self.assert_row(reading, row)

    def test_a_bad_token_at_a_good_place(self):
        for value in odd_values() + ["c", ("a",), ["a"], "ab"]:
            reading = read("abb")
            for k in range(3):
                self.assert_no_row(k, replace, reading, k, value)
            self.assert_row(reading, "abb")

    def test_good_places(self):
        reading = read("abb")
        reading[0] = "b"
        reading[2] = "a"
        self.assert_row(reading, "bba")
        self.assertEqual(reading.drop_at(1), "b")
        self.assertEqual(reading.drop_at(1), "a")
        self.assertEqual(reading.drop_at(0), "b")
        self.assert_row(reading, "")
        with self.assertRaises(NoPlace):
            reading.drop_at(0)


class Feeding(Case):
    def test_it_is_a_generator(self):
        reading = read("")
        self.assertTrue(inspect.isgenerator(reading.feed([])))
        self.assertTrue(inspect.isgenerator(reading.feed(None)))
        self.assertTrue(inspect.isgeneratorfunction(Reading.feed))
        self.assertEqual(list(reading.feed([])), [])
        self.assertEqual(list(reading.feed(())), [])

    def test_by_chance(self):
        chance = random.Random(802)
        for parts, _, _, base in plain.random_readers(802, 100):
            row = [chance.choice(list(parts[0])) for _ in range(chance.randint(0, 12))]
            cut = chance.randint(0, len(row))
            reading = Reading(base)
            for token in row[:cut]:
                reading += token
            found = list(reading.feed(chance.choice((list, tuple))(row[cut:])))
            places = told(base, row)
            self.assertEqual(found, [(k, int(k in places)) for k in range(cut, len(row))])
            self.assertTrue(all(type(item) is int for pair in found for item in pair))
            self.assert_row(reading, row)

    def test_a_token_is_appended_only_when_it_is_asked_for(self):
        reading = read("a")
        fed = reading.feed(["b", "b", "a"])
        self.assert_row(reading, "a")
        self.assertEqual(next(fed), (1, 0))
        self.assert_row(reading, "ab")
        self.assertEqual(next(fed), (2, 1))
        self.assert_row(reading, "abb")
        # The reader waits for a at t, and finds one that has no move there.
        self.assertEqual(next(fed), (3, 1))
        with self.assertRaises(StopIteration):
            next(fed)
        self.assert_row(reading, "abba")

    def test_the_loop_is_broken_off(self):
        reading = read("")
        for index, tells in reading.feed(("a", "b", "a", "b")):
            if index == 1:
                break
        self.assert_row(reading, "ab")

    def test_the_row_is_changed_otherwise_between_two_items(self):
        reading = read("ab")
        fed = reading.feed(("b", "b", "b"))
        self.assertEqual(next(fed), (2, 1))
        reading.drop_at(0)
        reading.drop_at(0)
        self.assertEqual(next(fed), (1, 0))
        self.assert_row(reading, "bb")
        reading += "a"
        reading[0] = "a"
        reading[1] = "b"
        self.assertEqual(next(fed), (3, 0))
        self.assert_row(reading, "abab")
        other = read("a")
        together = zip(other.feed(("b", "b")), other.feed(("a", "a")))
        self.assertEqual([(one[0], two[0]) for one, two in together], [(1, 2), (3, 4)])
        self.assert_row(other, "ababa")

    def test_a_bad_token(self):
        for value in odd_values() + ["c", "ab"]:
            reading = read("a")
            fed = reading.feed(["b", "a", value, "b"])
            self.assertEqual([next(fed)[0], next(fed)[0]], [1, 2])
            self.assert_no_row(3, next, fed)
            self.assert_row(reading, "aba")
            with self.assertRaises(StopIteration):
                next(fed)
            self.assert_row(reading, "aba")

    def test_a_full_row(self):
        reading = read(("a", "b") * 99)
        fed = reading.feed(["a", "b", "a"])
        self.assertEqual([next(fed), next(fed)], [(198, 0), (199, 0)])
        self.assert_no_row(200, next, fed)
        self.assertEqual(len(reading), 200)
        self.assert_no_row(200, next, reading.feed([None]))
        self.assertEqual(list(reading.feed([])), [])

    def test_what_is_no_list_or_tuple(self):
        for value in odd_values():
            if not isinstance(value, (list, tuple)):
                reading = read("ab")
                fed = reading.feed(value)
                self.assert_no_row(-1, next, fed)
                self.assert_no_row(-1, reading.trial, value)
                self.assert_row(reading, "ab")

    def test_the_list_stays_as_it_was(self):
        tokens = ["a", "b"]
        reading = read("")
        list(reading.feed(tokens))
        reading.trial(tokens)
        self.assertEqual(tokens, ["a", "b"])


class Trials(Case):
    def test_by_chance(self):
        chance = random.Random(803)
        for parts, _, _, base in plain.random_readers(803, 100):
            row = [chance.choice(list(parts[0])) for _ in range(chance.randint(0, 12))]
            cut = chance.randint(0, len(row))
            reading = Reading(base)
            for token in row[:cut]:
                reading += token
            self.assertEqual(reading.trial(chance.choice((list, tuple))(row[cut:])), told(base, row))
            self.assert_row(reading, row[:cut])

    def test_where_it_raises_an_error(self):
        for value in odd_values() + ["c"]:
            reading = read("a")
            self.assert_no_row(3, reading.trial, ["b", "b", value])
            self.assert_no_row(1, reading.trial, (value, value))
            self.assert_row(reading, "a")
        reading = read(("a", "b") * 99)
        self.assertEqual(reading.trial(["a", "b"]), [])
        self.assert_no_row(200, reading.trial, ["a", "b", "a"])
        self.assert_no_row(199, reading.trial, ["a", "c", "a"])
        self.assertEqual(len(reading), 198)

    def test_an_empty_trial(self):
        reading = read("abb")
        for tokens in ([], ()):
            self.assertEqual(reading.trial(tokens), reading.told())

    def test_a_new_list(self):
        reading = read("abb")
        reading.trial([]).append(7)
        self.assertEqual(reading.trial([]), reading.told())


class Stop(Exception):
    """An error that the program does not know."""


class Blocks(Case):
    def test_the_block_gives_the_reading_itself(self):
        reading = read("ab")
        with reading as inner:
            self.assertIs(inner, reading)
            inner += "b"
            self.assert_row(reading, "abb")
        self.assert_row(reading, "ab")

    def test_all_changes_are_taken_back(self):
        reading = read("abb")
        with reading:
            reading[0] = "b"
            reading.drop_at(1)
            reading += "a"
            list(reading.feed(["a", "a"]))
            self.assert_row(reading, "bbaaa")
            self.assertEqual(reading.told(), told(reader(), tuple("bbaaa")))
        self.assert_row(reading, "abb")
        self.assertEqual(reading.told(), told(reader(), tuple("abb")))

    def test_nested(self):
        reading = read("a")
        with reading:
            reading += "b"
            with reading as again:
                again += "a"
                with reading:
                    reading.drop_at(0)
                    self.assert_row(reading, "ba")
                self.assert_row(reading, "aba")
            self.assert_row(reading, "ab")
            with reading:
                reading += "b"
            self.assert_row(reading, "ab")
        self.assert_row(reading, "a")

    def test_ended_by_errors(self):
        for error in (Stop("x"), NoRow(3), Unlike(), KeyError("k"), KeyboardInterrupt(), GeneratorExit()):
            reading = read("ab")
            with self.assertRaises(type(error)) as caught:
                with reading:
                    reading += "a"
                    with reading:
                        reading.drop_at(0)
                        raise error
            self.assertIs(caught.exception, error)
            self.assert_row(reading, "ab")
        reading = read("ab")
        self.assert_no_row(3, self.fail_within, reading)
        self.assert_row(reading, "ab")

    def fail_within(self, reading):
        with reading:
            reading += "a"
            reading += "x"

    def test_an_error_caught_within(self):
        reading = read("ab")
        with reading:
            try:
                with reading:
                    reading += "a"
                    raise Stop()
            except Stop:
                pass
            self.assert_row(reading, "ab")
            reading += "b"
            self.assert_row(reading, "abb")
        self.assert_row(reading, "ab")

    def test_ended_by_a_return_and_a_break(self):
        reading = read("ab")

        def early():
            with reading:
                reading.drop_at(0)
                return reading.row()

        self.assertEqual(early(), ("b",))
        self.assert_row(reading, "ab")
        for _ in range(3):
            with reading:
                reading += "a"
                break
        self.assert_row(reading, "ab")
        for _ in range(3):
            with reading:
                reading += "a"
                continue
        self.assert_row(reading, "ab")

    def test_the_same_reading_many_times(self):
        reading = read("")
        for k in range(20):
            with reading:
                reading += "a"
            reading += "b"
            self.assertEqual(len(reading), k + 1)

    def test_deeply_nested(self):
        reading = read("")

        def deeper(depth):
            with reading:
                if depth:
                    reading.__iadd__("a")
                    deeper(depth - 1)
                    self.assertEqual(len(reading), 101 - depth)

        deeper(100)
        self.assert_row(reading, "")

    def test_two_readings(self):
        one, two = read("a"), read("b")
        with one, two:
            one += "b"
            two += "b"
            with one:
                two.drop_at(0)
                one += "a"
            self.assert_row(one, "ab")
            self.assert_row(two, "b")
        self.assert_row(one, "a")
        self.assert_row(two, "b")

    def test_a_feed_that_goes_on_behind_the_block(self):
        reading = read("a")
        fed = reading.feed(["b", "a", "b"])
        with reading:
            self.assertEqual(next(fed), (1, 0))
            self.assert_row(reading, "ab")
        self.assert_row(reading, "a")
        self.assertEqual(next(fed), (1, 1))
        self.assert_row(reading, "aa")


class Rehearsals(Case):
    def test_what_the_action_returns(self):
        reading = read("ab")
        calls = []

        def action(given):
            calls.append(given)
            given += "b"
            return given.told()

        self.assertEqual(rehearse(reading, action), [2, 3])
        self.assertEqual(len(calls), 1)
        self.assertIs(calls[0], reading)
        self.assert_row(reading, "ab")
        answer = object()
        self.assertIs(rehearse(reading, lambda given: answer), answer)
        self.assertIsNone(rehearse(reading, lambda given: None))
        self.assertIs(rehearse(reading, lambda given: given), reading)

    def test_errors(self):
        reading = read("ab")
        for error in (Stop("y"), NoPlace(1), TypeError("t"), StopIteration(), KeyboardInterrupt()):
            def action(given):
                given.drop_at(0)
                raise error

            with self.assertRaises(type(error)) as caught:
                rehearse(reading, action)
            self.assertIs(caught.exception, error)
            self.assert_row(reading, "ab")
        self.assert_no_place_in_rehearsal(reading)

    def assert_no_place_in_rehearsal(self, reading):
        with self.assertRaises(NoPlace) as caught:
            rehearse(reading, lambda given: given.drop_at(2))
        self.assertEqual(caught.exception.place, 2)
        self.assert_row(reading, "ab")

    def test_nested(self):
        reading = read("ab")

        def outer(given):
            given += "a"
            inner = rehearse(given, lambda again: again.drop_at(0))
            self.assert_row(given, "aba")
            with given:
                given.drop_at(0)
            return inner

        with reading:
            reading += "b"
            reading.drop_at(2)
            self.assertEqual(rehearse(reading, outer), "a")
            self.assert_row(reading, "ab")
        self.assert_row(reading, "ab")
