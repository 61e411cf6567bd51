import ast
import re
import unittest
from pathlib import Path

README = Path(__file__).resolve().parent.parent / "README.md"


def answer_told(rows, node):
    """The remark on a question's last row, or on the row behind it; else an empty text."""
    if not isinstance(node, ast.Expr):
        return ""
    told = rows[node.end_lineno - 1].partition("  # ")[2]
    behind = rows[node.end_lineno].strip()
    if not told and behind.startswith("# "):
        told = behind[2:]
    return told


class Readme(unittest.TestCase):
    def test_the_example_answers_what_it_says(self):
        example = re.search(r"```python\n(.*?)```", README.read_text("utf-8"), re.DOTALL).group(1)
        rows = example.split("\n")
        names = {}
        questions = 0
        for node in ast.parse(example).body:
            told = answer_told(rows, node)
            code = ast.unparse(node)
            if told:
                self.assertEqual(eval(code, names), ast.literal_eval(told), code)
                questions += 1
            else:
                exec(code, names)
        self.assertEqual(questions, 18)
