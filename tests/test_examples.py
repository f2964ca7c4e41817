"""The examples of the document, word by word, from the files in the folder examples."""

import ast
import os
import unittest

from stillpanes import boxes, bounds, drawings, errors, layouts, rules, shown

FOLDER = os.path.join(os.path.dirname(os.path.abspath(__file__)), "examples")
MODULES = (errors, layouts, rules, boxes, drawings, shown, bounds)
SECTIONS = (4, 5, 6, 7, 8, 9)


def steps_of(section):
    """The pairs (line of code, list of the lines told behind it) of a section."""
    steps = []
    with open(os.path.join(FOLDER, f"section_{section}.txt")) as file:
        for line in file.read().splitlines():
            if line.startswith(">>> "):
                steps.append((line[4:], []))
            else:
                steps[-1][1].append(line)
    return steps


def is_expression(code):
    """Whether a line of code is no statement."""
    return isinstance(ast.parse(code).body[0], ast.Expr)


def outcome(code, names):
    """The line that tells what comes of the code, as the document writes it."""
    try:
        return repr(eval(code, names))
    except (LookupError, ValueError) as error:
        kept = ", ".join(f"{key}={worth!r}" for key, worth in vars(error).items())
        return f"raises {type(error).__name__}({kept})"


class Examples(unittest.TestCase):
    def test_sections_in_order(self):
        names = {}
        for module in MODULES:
            names.update({key: worth for key, worth in vars(module).items() if not key.startswith("_")})
        seen = 0
        for section in SECTIONS:
            for code, told in steps_of(section):
                with self.subTest(section=section, code=code):
                    if not is_expression(code):
                        exec(code, names)
                        self.assertEqual(told, [])
                        continue
                    self.assertEqual(told, [outcome(code, names)])
                    seen += 1
        self.assertEqual(seen, 45)


if __name__ == "__main__":
    unittest.main()
