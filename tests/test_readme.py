"""The examples of README.md."""

import doctest
import pathlib
import unittest

ROOT = pathlib.Path(__file__).resolve().parent.parent


class ReadmeTest(unittest.TestCase):
    def test_its_examples(self):
        text = (ROOT / "README.md").read_text(encoding="utf-8").replace("```", "")
        found = doctest.DocTestParser().get_doctest(text, {}, "README.md", None, 0)
        told = []
        doctest.DocTestRunner().run(found, out=told.append)
        self.assertEqual(told, [])
        self.assertGreater(len(found.examples), 15)
