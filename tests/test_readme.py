"""The examples of README.md."""

import doctest
import unittest
from pathlib import Path

README = Path(__file__).resolve().parent.parent / "README.md"


class ReadmeTest(unittest.TestCase):
    def test_examples(self):
        # A fence right behind an example would be taken for its result.
        lines = [line for line in README.read_text(encoding="utf-8").split("\n") if not line.startswith("```")]
        examples = doctest.DocTestParser().get_doctest("\n".join(lines), {}, "README.md", str(README), 0)
        told = doctest.DocTestRunner().run(examples)
        self.assertGreater(told.attempted, 0)
        self.assertEqual(told.failed, 0)


if __name__ == "__main__":
    unittest.main()
