"""README.md: each module of the interface stands in it, and its examples tell what is written behind them."""

import ast
import os
import re
import unittest

from test_interface import FUNCTIONS, METHODS

README = os.path.join(os.path.dirname(os.path.abspath(__file__)), "..", "README.md")


def text():
    with open(README, encoding="utf-8") as file:
        return file.read()


class Readme(unittest.TestCase):
    def test_each_module_stands_in_it(self):
        for module in ["errors", *FUNCTIONS, *(module for module, _ in METHODS)]:
            self.assertIn(f"- `faceonface.{module}`: ", text())

    def test_examples(self):
        looked_at = 0
        for block in re.findall("```python\n(.*?)```", text(), re.DOTALL):
            names = {}
            for line in block.splitlines():
                code, _, told = line.partition("  #")
                if " = " not in code.split("(")[0] and told:
                    try:
                        due = ast.literal_eval(told.strip())
                    except (SyntaxError, ValueError):
                        continue
                    self.assertEqual(eval(code, names), due, line)
                    looked_at += 1
                else:
                    exec(code, names)
        self.assertGreater(looked_at, 20)
