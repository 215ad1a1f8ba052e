"""The example in README.md."""

import doctest
import unittest
from pathlib import Path

README = Path(__file__).resolve().parent.parent / "README.md"


class ReadmeTest(unittest.TestCase):
    def test_the_example(self):
        text = README.read_text(encoding="utf-8").replace("```\n", "\n")
        example = doctest.DocTestParser().get_doctest(text, {}, "README.md", str(README), 0)
        self.assertGreater(len(example.examples), 4)
        runner = doctest.DocTestRunner(verbose=False)
        runner.run(example)
        self.assertEqual(runner.failures, 0)
