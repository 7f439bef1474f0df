"""The worked examples of the document, and those of README.md."""

import doctest
import pathlib
import unittest

EXAMPLES = """
>>> from hushedpages.macros import length_of, expanded
>>> from hushedpages.reading import read_tree
>>> length_of(read_tree('@let{m p}{@p @p} @m{@m{a b}}'))
8
"""
README = pathlib.Path(__file__).resolve().parent.parent / "README.md"


class ExamplesTest(unittest.TestCase):
    def check_examples(self, text):
        test = doctest.DocTestParser().get_doctest(text, {}, self.id(), None, None)
        told = []
        result = doctest.DocTestRunner(verbose=False).run(test, out=told.append)
        self.assertEqual(result.failed, 0, "".join(told))
        self.assertGreater(result.attempted, 0)

    def test_the_examples_of_the_document(self):
        self.check_examples(EXAMPLES)

    def test_the_examples_of_the_readme(self):
        # The closing marks of a block of code are no output of its last example.
        self.check_examples(README.read_text().replace("```", "\n"))


if __name__ == "__main__":
    unittest.main()
