"""What README.md shows is so: its code runs, and what it tells behind a row, where that's a plain value, comes of it."""

import ast
import re
import unittest
from pathlib import Path

TEXT = (Path(__file__).resolve().parent.parent / "README.md").read_text()


def plain_value(comment):
    """The longest begin of a comment that is a plain value, in a list; a bare one where there's none."""
    for end in sorted({len(comment), *(found.start() for found in re.finditer("[:;,]", comment))}, reverse=True):
        try:
            return [ast.literal_eval(comment[:end])]
        except (SyntaxError, ValueError):
            continue
    return []


class Readme(unittest.TestCase):
    def test_what_is_shown(self):
        names, compared = {}, 0
        for block in re.findall(r"```python\n(.*?)```", TEXT, re.DOTALL):
            rows = block.split("\n")
            for node in ast.parse(block).body:
                source = ast.unparse(node)
                comment = rows[node.end_lineno - 1].partition("  # ")[2]
                if isinstance(node, ast.Expr):
                    told = eval(source, names)
                    for value in plain_value(comment):
                        self.assertEqual(told, value, source)
                        compared += 1
                else:
                    exec(source, names)
        self.assertGreater(compared, 50)

    def test_each_file_is_told(self):
        package = Path(__file__).resolve().parent.parent / "swayhalls"
        for path in package.glob("*.py"):
            if path.name != "__init__.py":
                self.assertIn(f"`swayhalls/{path.name}`", TEXT)


if __name__ == "__main__":
    unittest.main()
