"""The worked examples of the document, each run by itself."""

import ast
import unittest

from slipstold import errors

AB = """
>>> from slipstold.machines import Machine
>>> ab = Machine(("a", "b"), "s", {("s", "a"): "t", ("t", "b"): "s"}, ("s",))
"""

WITH_READER = AB + """
>>> from slipstold.readers import Reader
"""

EXAMPLES = [
    AB + """
>>> ("a", "b") in ab
True""",
    AB + """
>>> ab["s", "b"]
None""",
    """
>>> from slipstold.machines import Machine
>>> from slipstold.machines import least_right
>>> least_right(Machine(["a", "b"], "s", {("s", "b"): "t", ("t", "a"): "u"}, ["u"]))
('b', 'a')""",
    AB + """
>>> from slipstold.machines import parted
>>> parted(ab, Machine(("b", "a"), "s", {("s", "a"): "t", ("t", "b"): "s"}, ("s", "t")))
('a',)""",
    """
>>> from slipstold.machines import Machine
>>> Machine((), "s", {}, ("s",))
raises BadMachine""",
    """
>>> from slipstold.edits import target
>>> target([("keep", "a"), ("drop", "b"), ("put", "c"), ("turn", "a", "b")])
('a', 'c', 'b')""",
    AB + """
>>> from slipstold.edits import fewest
>>> fewest(ab, ("b", "b"))
1""",
    WITH_READER + """
>>> from slipstold.readings import told
>>> told(Reader(ab, {}), ("a", "a"))
[1, 2]""",
    WITH_READER + """
>>> from slipstold.readings import told
>>> told(Reader(ab, {}, hold=1), ("a", "a"))
[1]""",
    WITH_READER + """
>>> from slipstold.readings import trail
>>> trail(Reader(ab, {}), ("a", "a"))
[(0, 't', 'move'), (1, 't', 'error'), (1, 't', 'skip'), (2, 't', 'end')]""",
    WITH_READER + """
>>> from slipstold.readings import mended
>>> mended(Reader(ab, {}), ("a", "a"))
([('keep', 'a'), ('drop', 'a')], False)""",
    WITH_READER + """
>>> from slipstold.readings import mended
>>> mended(Reader(ab, {("t", "a"): ("put", "b")}), ("a", "a", "b"))
([('keep', 'a'), ('put', 'b'), ('keep', 'a'), ('keep', 'b')], True)""",
    WITH_READER + """
>>> Reader(ab, {("s", "b"): ("pass", ("b",), "s")})
raises BadRing""",
    WITH_READER + """
>>> from slipstold.excess import excess
>>> excess(Reader(ab, {}), "told")
None""",
    WITH_READER + """
>>> from slipstold.ratio import ratio
>>> ratio(Reader(ab, {}), "told")
(2, 1)""",
    WITH_READER + """
>>> from slipstold.ratio import constant
>>> constant(Reader(ab, {}), "told", (2, 1))
(0, 1)""",
    WITH_READER + """
>>> from slipstold.ratio import constant
>>> constant(Reader(ab, {}), "told", (1, 1))
raises TooLow""",
    WITH_READER + """
>>> from slipstold.bursts import bursts
>>> bursts(Reader(ab, {}), "told", 2)
[0, 2, 4]""",
    WITH_READER + """
>>> from slipstold.far import told_far
>>> told_far(Reader(ab, {}), ((), ("b",), 10 ** 20, ()))
100000000000000000000""",
    AB + """
>>> from slipstold.texts import machine_text
>>> machine_text(ab)
'tokens a b\\nstart s\\nmove s a t\\nmove t b s\\nfinal s'""",
    """
>>> from slipstold.machines import Machine
>>> from slipstold.texts import read_machine
>>> read_machine("tokens a b\\nstart s\\nfinal  s")
raises NoText""",
]


def run(example):
    """What the last line of an example gives, and what it should give."""
    lines = example.strip().split("\n")
    code = [line[4:] for line in lines if line.startswith(">>> ")]
    space = {}
    for line in code[:-1]:
        exec(line, space)
    try:
        found = eval(code[-1], space)
    except errors.SlipError as error:
        return "raises " + error.__class__.__name__, lines[-1]
    return found, ast.literal_eval(lines[-1])


class WorkedExamples(unittest.TestCase):
    def test_their_number(self):
        self.assertEqual(len(EXAMPLES), 21)

    def test_all(self):
        for example in EXAMPLES:
            found, expected = run(example)
            self.assertEqual(found, expected, example)
            self.assertEqual(repr(found), repr(expected), example)
