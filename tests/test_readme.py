"""The examples of README.md."""

import doctest
import pathlib
import unittest

README = pathlib.Path(__file__).resolve().parent.parent / "README.md"


class Readme(unittest.TestCase):
    def test_examples(self):
        # The fence that closes an example would count as a line of its output.
        text = README.read_text().replace("```", "")
        examples = doctest.DocTestParser().get_doctest(text, {}, "README.md", str(README), 0)
        self.assertGreater(len(examples.examples), 10)
        found = []
        doctest.DocTestRunner().run(examples, out=found.append)
        self.assertEqual(found, [])
