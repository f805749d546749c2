"""Tests of README.md: its examples are true."""

import doctest
import pathlib
import unittest

README = pathlib.Path(__file__).resolve().parent.parent / "README.md"


class ReadmeTest(unittest.TestCase):

    def test_examples(self):
        # doctest takes the line that ends a block of the page for an answer.
        text = "\n".join(line for line in README.read_text().split("\n") if line != "```")
        test = doctest.DocTestParser().get_doctest(text, {}, "README.md", str(README), 0)
        told = []
        result = doctest.DocTestRunner(verbose=False).run(test, out=told.append)
        self.assertGreater(result.attempted, 20)
        self.assertEqual(result.failed, 0, "".join(told))


if __name__ == "__main__":
    unittest.main()
