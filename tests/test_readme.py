"""What README.md shows is what the program returns."""

import os
import unittest

README = os.path.join(os.path.dirname(os.path.dirname(os.path.abspath(__file__))), "README.md")


def shown_lines():
    """The lines of code that README.md shows as Python."""
    with open(README, encoding="utf-8") as file:
        lines = [line[4:].rstrip("\n") for line in file if line.startswith("    ")]
    return [line for line in lines if not line.startswith((".ci", "python3", "#"))]


class Readme(unittest.TestCase):
    def test_examples(self):
        names = {}
        told = 0
        for line in shown_lines():
            code, _, remark = line.partition("  # ")
            if " = " in code or code.startswith("from "):
                exec(code, names)
            else:
                with self.subTest(line=line):
                    self.assertEqual(eval(code, names), eval(remark.partition(": ")[0]))
                    told += 1
        self.assertEqual(told, 22)


if __name__ == "__main__":
    unittest.main()
