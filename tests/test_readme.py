"""The examples of README.md."""

import doctest
import unittest

from pathlib import Path

README = Path(__file__).parent.parent / "README.md"


class Readme(unittest.TestCase):
    def test_examples(self):
        # The rows that end an example would be taken for what it prints.
        text = README.read_text().replace("```", "")
        examples = doctest.DocTestParser().get_doctest(text, {}, "README.md", str(README), 0)
        self.assertGreater(len(examples.examples), 10)
        printed = []
        failed, _ = doctest.DocTestRunner(verbose=False).run(examples, out=printed.append)
        self.assertEqual(failed, 0, "".join(printed))


if __name__ == "__main__":
    unittest.main()
