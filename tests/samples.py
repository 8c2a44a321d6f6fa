"""Machines, rows and odd values that several tests use."""

import itertools
import random

from slipstold.errors import NoRow
from slipstold.machines import Machine
from slipstold.readers import Reader

LETTERS = "abcd"
STATES = ("p", "q", "r", "s", "t", "u")


def ab():
    """The machine AB of the document."""
    return Machine(("a", "b"), "s", {("s", "a"): "t", ("t", "b"): "s"}, ("s",))


def nested(kind, depth):
    """A list, tuple or dict that is nested so deep."""
    value = kind()
    for _ in range(depth - 1):
        value = {"a": value} if kind is dict else kind([value])
    return value


def odd_values():
    """New values of many kinds; none of them is a name, a list of names, a row of AB, a dict of moves or a script."""
    def generator():
        yield "a"

    return [
        None, True, False, 0, 1, -1, 10 ** 40, "", "A", "a ", "a\n", "a1", "abcdefghi",
        b"", b"a", bytearray(b"a"), memoryview(b"a"), range(0), range(3), slice(0, 1),
        set(), {"a"}, frozenset(), frozenset(["a"]), {None: 1}, {"a": 1}, [1], (1,), [None], ("",), [[]], [()],
        nested(list, 90), nested(tuple, 90), nested(dict, 90), frozenset([nested(tuple, 80)]),
        object(), int, str, len, lambda: None, generator(), iter(["a"]), ..., NotImplemented,
        ValueError("a"), NoRow(1), ab(), [ab()], (ab(), "a"), Reader(ab(), {}), [Reader(ab(), {})],
    ]


def all_rows(tokens, longest):
    """All rows up to a length, the least first."""
    for length in range(longest + 1):
        yield from itertools.product(sorted(tokens), repeat=length)


def plain_behind(parts, row):
    """The state behind a row, found from the parts of a machine alone."""
    _, state, moves, _ = parts
    for token in row:
        if (state, token) not in moves:
            return None
        state = moves[state, token]
    return state


def plain_right(parts, row):
    """Whether a row is right, found from the parts of a machine alone."""
    return plain_behind(parts, row) in parts[3]


def random_parts(chance, most_tokens=4, most_states=6):
    """The parts of a machine that is good, with the orders and kinds of its lists by chance."""
    while True:
        tokens = chance.sample(LETTERS, chance.randint(1, most_tokens))
        states = chance.sample(STATES, chance.randint(1, most_states))
        density = chance.choice((0.3, 0.5, 0.8))
        moves = {(state, token): chance.choice(states)
                 for state in states for token in tokens if chance.random() < density}
        finals = chance.sample(states, chance.randint(1, len(states)))
        if chance.random() < 0.5:
            tokens, finals = tuple(tokens), tuple(finals)
        parts = (tokens, states[0], moves, finals)
        if any(plain_right(parts, row) for row in all_rows(tokens, len(states) - 1)):
            return parts


def random_machines(seed, many, **limits):
    """Parts of machines with the machines made of them."""
    chance = random.Random(seed)
    for _ in range(many):
        parts = random_parts(chance, **limits)
        yield parts, Machine(*parts)


def parts_of_200():
    """The parts and the table of a reader with 200 useful standings: 40 configurations and 5 hopeful states."""
    moves = {("s", "d"): "p", ("s", "a"): "r", ("q", "a"): "p", ("p", "b"): "u", ("u", "a"): "t", ("t", "d"): "u"}
    table = {("q", "c"): ("pass", ("d",), "q"), ("r", "b"): ("pass", ("d",), "p"),
             ("r", "d"): ("pass", ("a", "c"), "q"), ("u", "d"): ("pass", ("c",), "t")}
    return (("a", "b", "c", "d"), "s", moves, ("t", "r")), table


def parts_of_201():
    """The parts and the table of a reader with 201 useful standings: 67 configurations and 3 hopeful states."""
    table = {("s", "c"): ("pass", ("b",), "t"), ("s", "d"): ("pass", ("a", "b", "c"), "t"),
             ("t", "a"): ("pass", ("c", "d"), "w"), ("t", "c"): ("pass", ("d",), "x"),
             ("t", "d"): ("pass", ("a", "b", "c"), "x"), ("u", "a"): ("pass", ("d",), "w"),
             ("u", "d"): ("pass", ("a", "b"), "s"), ("v", "b"): ("pass", ("a", "c", "d"), "t"),
             ("v", "d"): ("pass", ("a",), "w"), ("w", "a"): ("pass", ("b", "c", "d"), "v"),
             ("x", "a"): ("pass", ("b", "d"), "u")}
    moves = {("s", "a"): "t", ("t", "b"): "u"}
    return (("a", "b", "c", "d"), "s", moves, ("u", "v", "w", "x")), table


def long_reader(parts, table):
    """The reader made of these parts, with the longest hold."""
    return Reader(Machine(*parts), table, hold=3)


def parts_with_excess():
    """The parts and the table of a reader with 200 useful standings; with the hold 3 its excess for told is 3."""
    moves = {("p", "b"): "q", ("p", "d"): "q", ("q", "a"): "r", ("q", "c"): "t", ("q", "d"): "s", ("r", "c"): "r",
             ("r", "d"): "t", ("s", "a"): "r", ("t", "a"): "t"}
    table = {("p", "a"): ("pass", ("a", "c", "d"), "t"), ("p", "c"): ("pass", ("b",), "p"),
             ("q", "b"): ("pass", ("a", "d"), "p"), ("r", "a"): ("pass", ("a", "b", "d"), "p"),
             ("r", "b"): ("pass", ("a", "b", "c", "d"), "p"), ("s", "b"): ("pass", ("a", "d"), "s"),
             ("s", "c"): ("pass", ("a",), "q"), ("t", "b"): ("pass", ("a", "d"), "s"),
             ("t", "c"): ("pass", ("a", "b", "d"), "r"), ("t", "d"): ("pass", ("c",), "s")}
    return (("a", "b", "c", "d"), "p", moves, ("t",)), table


def parts_with_ratio():
    """The parts and the table of a reader with 200 useful standings; with the hold 3 its ratio for told is (3, 2)."""
    moves = {("p", "a"): "p", ("p", "b"): "s", ("p", "c"): "r", ("q", "d"): "s", ("r", "a"): "s", ("r", "c"): "q",
             ("s", "a"): "t", ("t", "c"): "q"}
    table = {("p", "d"): ("pass", ("a", "c"), "s"), ("q", "a"): ("pass", ("b", "c", "d"), "s"),
             ("q", "c"): ("pass", ("b", "d"), "p"), ("r", "b"): ("pass", ("c",), "t"),
             ("r", "d"): ("pass", ("b",), "r"), ("s", "b"): ("pass", ("d",), "q"), ("s", "c"): ("jump", "p"), ("s", "d"): ("jump", "r"),
             ("t", "a"): ("jump", "q")}
    return (("a", "b", "c", "d"), "p", moves, ("s",)), table
