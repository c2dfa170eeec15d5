"""The examples of README.md return what they say."""

import doctest
import os
import unittest

README = os.path.join(os.path.dirname(os.path.dirname(os.path.abspath(__file__))), "README.md")


class Readme(unittest.TestCase):
    def test_examples(self):
        # A closing fence would be taken for output.
        with open(README, encoding="ascii") as file:
            text = file.read().replace("```", "")
        examples = doctest.DocTestParser().get_doctest(text, {}, "README.md", README, 0)
        self.assertGreater(len(examples.examples), 10)
        told = []
        doctest.DocTestRunner().run(examples, out=told.append)
        self.assertEqual("".join(told), "")
