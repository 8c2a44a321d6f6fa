"""Point 26: the least hold, and the best choices between actions."""

import itertools
import random
import unittest
from fractions import Fraction

from slipstold.choices import best, least_hold
from slipstold.errors import BadRing, NoChoice, TooMany
from slipstold.machines import Machine
from slipstold.ratio import constant, ratio
from slipstold.readers import Reader
from slipstold.web import useful
from tests import plain
from tests.plain_web import Web, as_pair, plain_ratio, values
from tests.samples import ab, long_reader, odd_values, parts_of_201, parts_with_ratio

SKIP = ("skip",)
# One token that never has a move: each error told costs one drop, and the hold keeps the next ones quiet.
DROPS = (("b",), "s", {}, ("s",))


def drops(hold=0):
    return Reader(Machine(*DROPS), {}, hold=hold)


class LeastHold(unittest.TestCase):
    def test_each_answer(self):
        self.assertEqual([ratio(drops(hold), "told") for hold in range(4)], [(1, 1), (1, 2), (1, 3), (1, 4)])
        for hold in range(4):
            reader = drops(hold)
            for answer, p in enumerate([(1, 1), (1, 2), (1, 3), (1, 4)]):
                self.assertEqual(least_hold(reader, "told", p), answer)
                self.assertEqual(least_hold(reader, "told", as_pair(Fraction(*p) + Fraction(1, 1000))), answer)
                self.assertEqual(least_hold(reader, "told", as_pair(Fraction(*p) - Fraction(1, 1000))),
                                 None if answer == 3 else answer + 1)
            self.assertIsNone(least_hold(reader, "told", (0, 1)))
            self.assertIsNone(least_hold(reader, "told", (1, 5)))
            self.assertEqual(least_hold(reader, "mends", (1, 1)), 0)
            self.assertIsNone(least_hold(reader, "mends", (99, 100)))

    def test_a_ratio_of_none_is_above_all(self):
        machine = Machine(["a", "b"], "s", {("s", "a"): "s"}, ["s", "t"])
        reader = Reader(machine, {("s", "b"): ("jump", "t")}, hold=2)
        for p in ((0, 1), (1, 1), (10 ** 100 - 1, 1)):
            self.assertIsNone(least_hold(reader, "told", p))

    def test_a_ratio_of_zero(self):
        reader = Reader(Machine(["a"], "s", {("s", "a"): "s"}, ["s"]), {}, hold=3)
        self.assertEqual(least_hold(reader, "told", (0, 1)), 0)

    def test_too_many_standings_behind_the_answer(self):
        for hold in range(4):
            reader = long_reader(*parts_of_201()).with_hold(hold)
            self.assertEqual(least_hold(reader, "told", (1, 1)), 0)
            self.assertEqual(least_hold(reader, "mends", (1, 1)), 0)
            self.assertEqual(least_hold(reader, "told", (99, 100)), 1)
            self.assertEqual(least_hold(reader, "told", (1, 2)), 1)
            self.assertEqual(least_hold(reader, "told", (1, 3)), 2)

    def test_too_many_standings_before_an_answer(self):
        for hold in range(4):
            reader = long_reader(*parts_of_201()).with_hold(hold)
            for measure, p in (("told", (33, 100)), ("told", (1, 4)), ("told", (0, 1)), ("mends", (99, 100))):
                with self.assertRaises(TooMany) as caught:
                    least_hold(reader, measure, p)
                self.assertEqual(caught.exception.limit, 200)

    def test_at_200_standings(self):
        reader = long_reader(*parts_with_ratio())
        self.assertEqual([least_hold(reader, "told", p) for p in ((3, 1), (2, 1), (3, 2), (1, 1))], [0, 1, 3, None])

    def test_readers_by_chance_against_a_plain_search(self):
        answers = set()
        chance = random.Random(501)
        for parts, table, _, reader in plain.random_readers(501, 80, most_tokens=2, most_states=3):
            for measure in ("told", "mends"):
                p = chance.choice(((1, 2), (1, 1), (3, 2), (2, 1), (1, 3), (3, 1)))
                found = None
                for hold in reversed(range(4)):
                    least = plain_ratio(Web(parts, table, hold, measure))
                    if least is not None and least <= Fraction(*p):
                        found = hold
                self.assertEqual(least_hold(reader, measure, p), found)
                answers.add(found)
        self.assertGreaterEqual(answers, {None, 0, 1, 2})


def rank(web):
    """What best compares."""
    p = plain_ratio(web)
    return (1,) if p is None else (0, p, values(web, p)[web.first])


def plain_best(parts, table, hold, measure, choices):
    """The best ways, by the plain search, with the ranks of all ways that do not ring."""
    ranks = {}
    for way in itertools.product((0, 1), repeat=len(choices)):
        changed = {**table, **{choice[0]: choice[1 + pick] for choice, pick in zip(choices, way)}}
        if not plain.ringing(parts, changed):
            ranks[way] = rank(Web(parts, changed, hold, measure))
    return sorted(way for way in ranks if ranks[way] == min(ranks.values())), ranks


class Best(unittest.TestCase):
    def test_no_choices(self):
        for choices in ([], ()):
            self.assertEqual(best(Reader(ab(), {}), "told", choices), [()])
            self.assertEqual(best(Reader(Machine(["a", "b"], "s", {("s", "a"): "s"}, ["s", "t"]),
                                         {("s", "b"): ("jump", "t")}), "told", choices), [()])

    def test_one_choice(self):
        # With takes alone the reader can stay one token off, and mends all that is right.
        reader = Reader(ab(), {("t", "a"): ("take", "b")})
        self.assertEqual(ratio(reader, "mends"), (2, 1))
        self.assertEqual(ratio(reader.with_action("s", "b", ("take", "a")), "mends"), None)
        self.assertEqual(best(reader, "mends", [(("s", "b"), SKIP, ("take", "a"))]), [(0,)])
        self.assertEqual(best(reader, "mends", [(("s", "b"), ("take", "a"), SKIP)]), [(1,)])

    def test_equal_actions(self):
        reader = Reader(ab(), {})
        for action in (SKIP, ["skip"], ("take", "a"), ["pass", ["a"], "t"]):
            self.assertEqual(best(reader, "told", [(("s", "b"), action, action)]), [(0,), (1,)])
        self.assertEqual(best(reader, "told", [[("s", "b"), ("pass", ("a", "b"), "t"), ["pass", ["b", "a"], "t"]]]),
                         [(0,), (1,)])

    def test_the_table_is_replaced_at_the_pairs_alone(self):
        reader = Reader(ab(), {("t", "a"): ("take", "b"), ("s", "b"): ("jump", "t")})
        self.assertEqual(best(reader, "mends", [(("s", "b"), ("take", "a"), SKIP)]),
                         best(reader.with_action("s", "b", SKIP), "mends", [(("s", "b"), ("take", "a"), SKIP)]))

    def test_ways_that_ring(self):
        reader = Reader(ab(), {})
        ringing = ("pass", ("b",), "s")
        with self.assertRaises(BadRing):
            reader.with_action("s", "b", ringing)
        self.assertEqual(best(reader, "told", [(("s", "b"), ringing, SKIP)]), [(1,)])
        self.assertEqual(best(reader, "told", [(("s", "b"), SKIP, ringing)]), [(0,)])
        self.assertEqual(best(reader, "told", [(("s", "b"), ringing, ringing)]), [])

    def test_ways_that_ring_together_alone(self):
        machine = Machine(["a"], "s", {("u", "a"): "s"}, ["s", "t"])
        reader = Reader(machine, {})
        choices = [(("s", "a"), ("jump", "t"), SKIP), (("t", "a"), ("jump", "s"), SKIP)]
        self.assertEqual(set(plain_best((("a",), "s", {("u", "a"): "s"}, ("s", "t")), {}, 0, "told", choices)[1]),
                         {(0, 1), (1, 0), (1, 1)})
        self.assertNotIn((0, 0), best(reader, "told", choices))

    def test_all_ratios_none(self):
        machine = Machine(["a", "b"], "s", {("s", "a"): "s"}, ["s", "t", "u"])
        reader = Reader(machine, {})
        choices = [(("s", "b"), ("jump", "t"), ("jump", "u")), (("t", "b"), SKIP, ("jump", "u"))]
        self.assertIsNone(ratio(reader.with_action("s", "b", ("jump", "t")), "told"))
        self.assertEqual(best(reader, "told", choices), [(0, 0), (0, 1), (1, 0), (1, 1)])

    def test_a_ratio_of_none_is_the_greatest(self):
        machine = Machine(["a", "b"], "s", {("s", "a"): "s"}, ["s", "t"])
        reader = Reader(machine, {("s", "b"): ("jump", "t")})
        self.assertIsNone(ratio(reader, "told"))
        self.assertEqual(best(reader, "told", [(("s", "b"), ("jump", "t"), SKIP)]), [(1,)])
        self.assertEqual(best(reader, "told", [(("s", "b"), SKIP, ("jump", "t"))]), [(0,)])

    def test_a_less_ratio_counts_more_than_a_less_constant(self):
        reader = Reader(Machine(["b"], "q", {("r", "b"): "r"}, ["r", "q"]), {}, hold=3)
        one, other = reader.with_action("q", "b", ("jump", "r")), reader
        self.assertEqual([ratio(one, "told"), constant(one, "told", (0, 1))], [(0, 1), (1, 1)])
        self.assertEqual([ratio(other, "told"), constant(other, "told", (1, 4))], [(1, 4), (3, 4)])
        self.assertEqual(best(reader, "told", [(("q", "b"), ("jump", "r"), SKIP)]), [(0,)])
        self.assertEqual(best(reader, "told", [(("q", "b"), SKIP, ("jump", "r"))]), [(1,)])

    def test_equal_ratios_and_different_constants(self):
        found = 0
        for parts, table, hold, reader in plain.random_readers(502, 400, most_tokens=2, most_states=3):
            choices = some_choices(random.Random(found), parts, 1)
            if choices is None:
                continue
            expected, ranks = plain_best(parts, table, hold, "told", choices)
            grades = sorted(ranks.values())
            if len(grades) == 2 and grades[0][:2] == grades[1][:2] and grades[0] < grades[1] and len(grades[0]) == 3:
                found += 1
                self.assertEqual(best(reader, "told", choices), expected)
                self.assertEqual(len(expected), 1)
                self.check_constants(reader, choices[0], expected[0][0])
        self.assertGreater(found, 3)

    def check_constants(self, reader, choice, pick):
        one = reader.with_action(*choice[0], choice[1 + pick])
        other = reader.with_action(*choice[0], choice[2 - pick])
        p = ratio(one, "told")
        self.assertEqual(ratio(other, "told"), p)
        self.assertLess(Fraction(*constant(one, "told", p)), Fraction(*constant(other, "told", p)))

    def test_readers_by_chance_against_a_plain_search(self):
        chance = random.Random(503)
        lengths = {}
        for number, (parts, table, hold, reader) in enumerate(
                plain.random_readers(503, 120, most_tokens=3, most_states=3)):
            choices = some_choices(chance, parts, number % 6)
            if choices is None or len(useful_bound(parts, hold)) > 24:
                continue
            measure = chance.choice(("told", "mends"))
            expected = plain_best(parts, table, hold, measure, choices)[0]
            given = chance.choice((list, tuple))(choices)
            self.assertEqual(best(reader, measure, given), expected)
            lengths[len(choices)] = lengths.get(len(choices), 0) + 1
        self.assertEqual(set(lengths), set(range(6)))

    def test_too_many_standings(self):
        big = long_reader(*parts_of_201())
        for choices in ([], [(("s", "c"), ("pass", ("b",), "t"), ("pass", ["b"], "t"))]):
            with self.assertRaises(TooMany) as caught:
                best(big, "told", choices)
            self.assertEqual(caught.exception.limit, 200)

    def test_one_way_with_too_many_standings_is_enough(self):
        big = long_reader(*parts_of_201())
        small = big.with_action("s", "c", SKIP)
        self.assertLessEqual(len(useful(small)), 200)
        few, many = SKIP, ("pass", ("b",), "t")
        for reader in (big, small):
            for choice in ((("s", "c"), few, many), (("s", "c"), many, few)):
                with self.assertRaises(TooMany):
                    best(reader, "told", [choice])
            # The reader's own table does not count where a choice replaces it.
            self.assertEqual(best(reader, "told", [(("s", "c"), few, few)]), [(0,), (1,)])

    def test_ways_that_are_left_out_may_have_too_many(self):
        big = long_reader(*parts_of_201())
        ringing = ("pass", ("b",), "v")
        self.assertIn(("v", "b"), big.table())
        with self.assertRaises(BadRing):
            big.with_action("v", "b", ringing)
        self.assertEqual(best(big, "told", [(("v", "b"), ringing, ringing)]), [])


def some_choices(chance, parts, many):
    """So many choices by chance, or None if there are too few pairs."""
    pairs = plain.open_pairs(parts)
    if len(pairs) < many:
        return None
    return [chance.choice((list, tuple))((pair, plain.random_action(chance, parts, pair),
                                          plain.random_action(chance, parts, pair)))
            for pair in chance.sample(pairs, many)]


def useful_bound(parts, hold):
    """As many things as a reader with few passes has standings at most."""
    states = plain.all_states(parts)
    return list(itertools.product(states, range(hold + 1), plain.plain_hopeful(parts)))


class BadChoices(unittest.TestCase):
    def assert_bad(self, place, choices):
        for big in (Reader(ab(), {}), Reader(ab(), {("t", "a"): ("put", "b")}, hold=2)):
            with self.assertRaises(NoChoice) as caught:
                best(big, "told", choices)
            self.assertEqual(caught.exception.place, place, choices)

    def test_no_list(self):
        for value in odd_values():
            if not isinstance(value, (list, tuple)):
                self.assert_bad(-1, value)
        good = (("s", "b"), SKIP, SKIP)
        self.assert_bad(-1, [good] * 6)
        self.assert_bad(-1, tuple([None] * 6))
        self.assert_bad(-1, {good: 1})

    def test_no_choice(self):
        good = (("s", "b"), SKIP, ("take", "a"))
        bad = odd_values() + [
            (), (("s", "b"),), (("s", "b"), SKIP), (("s", "b"), SKIP, SKIP, SKIP), "abc", {("s", "b"): SKIP},
            (["s", "b"], SKIP, SKIP), (("s", "a"), SKIP, SKIP), (("s", "c"), SKIP, SKIP), (("x", "b"), SKIP, SKIP),
            (("s",), SKIP, SKIP), (("s", "b", "b"), SKIP, SKIP), ("sb", SKIP, SKIP), (("b", "s"), SKIP, SKIP),
            (("t", "a"), ("take", "a"), SKIP), (("t", "a"), SKIP, ("take", "a")), (("t", "a"), SKIP, ("jump", "t")),
            (("t", "a"), SKIP, None), (("t", "a"), None, SKIP), (("t", "a"), "skip", SKIP),
            (("t", "a"), SKIP, ("skip", "a")),
            (("t", "a"), SKIP, ("pass", (), "s")), (("t", "a"), ("pass", ("a", "a"), "s"), SKIP),
            (("t", "a"), ("pass", ("a",), "x"), SKIP), (("t", "a"), ("move", "s"), SKIP),
        ]
        for value in bad:
            self.assert_bad(0, [value])
            self.assert_bad(1, (good, value, None))

    def test_odd_parts(self):
        for value in odd_values():
            for choice in ((value, SKIP, SKIP), (("t", "a"), value, SKIP), (("t", "a"), SKIP, value),
                           ((value, "a"), SKIP, SKIP), (("t", value), SKIP, SKIP), (("t", "a"), (value,), SKIP),
                           (("t", "a"), SKIP, ("put", value)), (("t", "a"), ("jump", value), SKIP),
                           (("t", "a"), SKIP, ("pass", value, "s")), (("t", "a"), ("pass", ("b",), value), SKIP),
                           (("t", "a"), SKIP, ("pass", (value,), "s"))):
                self.assert_bad(0, [choice])

    def test_the_same_pair_again(self):
        one, other = (("s", "b"), SKIP, ("take", "a")), [("t", "a"), SKIP, ["put", "b"]]
        self.assert_bad(1, [one, one])
        self.assert_bad(1, [one, [("s", "b"), ("jump", "t"), SKIP], None])
        self.assert_bad(2, (one, other, one))
        self.assert_bad(2, [one, other, (("t", "a"), None, None)])
        best(Reader(ab(), {}), "told", [one, other])

    def test_ahead_of_too_many(self):
        big = long_reader(*parts_of_201())
        for choices, place in ((None, -1), ([None], 0), ([(("s", "c"), SKIP, SKIP), (("s", "c"), SKIP, SKIP)], 1)):
            with self.assertRaises(NoChoice) as caught:
                best(big, "mends", choices)
            self.assertEqual(caught.exception.place, place)

    def test_five_choices(self):
        reader = Reader(Machine(["a", "b", "c"], "s", {("s", "a"): "t"}, ["t"]), {})
        pairs = sorted(reader.table())
        self.assertEqual(len(pairs), 5)
        self.assertEqual(len(best(reader, "told", [(pair, SKIP, SKIP) for pair in pairs])), 32)
        self.assertEqual(best(reader, "told", [(pair, SKIP, ["skip"]) for pair in pairs[:2]]),
                         [(0, 0), (0, 1), (1, 0), (1, 1)])
