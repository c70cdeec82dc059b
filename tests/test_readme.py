"""The examples of README.md give what it says."""

import builtins
import doctest
import unittest
from pathlib import Path

README = Path(__file__).resolve().parent.parent / "README.md"


class Readme(unittest.TestCase):
    def test_examples(self):
        text = README.read_text().replace("```\n", "\n")
        test = doctest.DocTestParser().get_doctest(text, {}, "README.md", None, 0)
        self.assertGreater(len(test.examples), 10)
        # Showing a value leaves it behind as a builtin.
        self.addCleanup(vars(builtins).pop, "_", None)
        self.assertEqual(doctest.DocTestRunner(verbose=False).run(test).failed, 0)


if __name__ == "__main__":
    unittest.main()
