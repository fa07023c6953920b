"""The examples of README.md do what the comments beside them say."""

import ast
import pathlib
import re
import unittest

TEXT = (pathlib.Path(__file__).resolve().parent.parent / "README.md").read_text()


def told(line):
    """Return the value that the comment of a line begins with, in a list, or an empty list."""
    comment = line.partition("  # ")[2].split(": ")[0]
    try:
        return [ast.literal_eval(comment)]
    except (SyntaxError, ValueError):
        return []


class ReadmeTest(unittest.TestCase):
    def test_examples(self):
        names, asked = {"print": lambda *values: None}, 0
        for block in re.findall(r"```python\n(.*?)```", TEXT, re.S):
            lines = block.split("\n")
            for node in ast.parse(block).body:
                if not isinstance(node, ast.Expr):
                    exec(compile(ast.Module([node], []), "README.md", "exec"), names)
                    continue
                found = eval(compile(ast.Expression(node.value), "README.md", "eval"), names)
                for expected in told(lines[node.end_lineno - 1]):
                    asked += 1
                    self.assertEqual(found, expected, lines[node.lineno - 1])
        self.assertGreater(asked, 50)


if __name__ == "__main__":
    unittest.main()
