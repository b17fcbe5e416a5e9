"""All examples of DOC.md: they stand in examples.txt, each one with what it returns, or raises, in the next line."""

import unittest
from importlib import import_module
from pathlib import Path

import munchbehind.errors

PACKAGE = Path(munchbehind.errors.__file__).resolve().parent
EXAMPLES = Path(__file__).resolve().parent / "examples.txt"


def known_names():
    """All names of all modules of the package."""
    names = {}
    for path in sorted(PACKAGE.rglob("*.py")):
        module = import_module(".".join(path.relative_to(PACKAGE.parent).with_suffix("").parts))
        names.update({name: value for name, value in vars(module).items() if not name.startswith("__")})
    return names


class ExamplesTest(unittest.TestCase):
    def test_all(self):
        names = known_names()
        names["six"] = ("s",) * 6 + ("c",)
        lines = [line for line in EXAMPLES.read_text(encoding="utf-8").split("\n") if line]
        asked = 0
        for line, answer in zip(lines, lines[1:] + [""]):
            if not line.startswith(">>> "):
                if " = " in line and line.split(" ")[0].isupper():
                    exec(line, names)
                continue
            text = line.removeprefix(">>> ")
            with self.subTest(text):
                if answer.startswith("raises "):
                    with self.assertRaises(names[answer.removeprefix("raises ")]):
                        eval(text, names)
                elif answer.startswith(">>> "):
                    exec(text, names)
                else:
                    self.assertEqual(eval(text, names), eval(answer))
                    asked += 1
        self.assertEqual(asked, 36)


if __name__ == "__main__":
    unittest.main()
