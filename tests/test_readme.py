"""The examples of README.md, told as they stand there."""

import doctest
import re
import unittest
from pathlib import Path

README = Path(__file__).resolve().parent.parent / "README.md"


class ReadmeTest(unittest.TestCase):
    def test_examples(self):
        blocks = [block for block in re.findall("```\n(.*?)```", README.read_text(encoding="utf-8"), re.S) if ">>>" in block]
        self.assertGreater(len(blocks), 5)
        # Later examples use names of earlier ones.
        names = {}
        for block in blocks:
            test = doctest.DocTestParser().get_doctest(block, names, "README.md", None, None)
            test.globs = names
            runner = doctest.DocTestRunner(verbose=False)
            told = []
            runner.run(test, out=told.append, clear_globs=False)
            self.assertEqual("".join(told), "")


if __name__ == "__main__":
    unittest.main()
