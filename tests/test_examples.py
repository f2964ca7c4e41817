"""The examples of the document, word by word, from the files in the folder examples, and those of README.md."""

import ast
import doctest
import inspect
import os
import unittest

from stillpanes import (bars, bounds, boxes, drawings, errors, flat, follow, layouts, levels, partings, rules, sharp,
                        shown, states)

FOLDER = os.path.join(os.path.dirname(os.path.abspath(__file__)), "examples")
MODULES = (errors, layouts, rules, boxes, drawings, shown, bounds, follow, sharp, flat, levels, partings, bars, states)
SECTIONS = tuple(range(4, 17))


def steps_of(section):
    """The pairs (line of code, list of the lines told behind it) of a section."""
    steps = []
    with open(os.path.join(FOLDER, f"section_{section}.txt")) as file:
        for line in file.read().splitlines():
            if line.startswith(">>> "):
                steps.append((line[4:], []))
            else:
                steps[-1][1].append(line)
    return steps


def is_expression(code):
    """Whether a line of code is no statement."""
    return isinstance(ast.parse(code).body[0], ast.Expr)


def outcome(code, names):
    """The line that tells what comes of the code, as the document writes it."""
    try:
        return repr(eval(code, names))
    except (LookupError, ValueError) as error:
        kept = ", ".join(f"{key}={worth!r}" for key, worth in vars(error).items())
        return f"raises {type(error).__name__}({kept})"


class ByName(ast.NodeTransformer):
    """Hands each argument of a function of the package over by its name."""

    def __init__(self, names):
        self.names = names

    def visit_Call(self, node):
        self.generic_visit(node)
        function = self.names.get(node.func.id) if isinstance(node.func, ast.Name) else None
        if not inspect.isfunction(function) or any(isinstance(own, ast.Starred) for own in node.args):
            return node
        parameters = list(inspect.signature(function).parameters)
        named = [ast.keyword(arg=key, value=worth) for key, worth in zip(parameters, node.args)]
        assert len(named) == len(parameters), ast.unparse(node)
        return ast.Call(func=node.func, args=[], keywords=named)


def by_name(code, names):
    """The same code with the arguments of the package's functions by name."""
    return ast.unparse(ast.fix_missing_locations(ByName(names).visit(ast.parse(code))))


class Examples(unittest.TestCase):
    def test_sections_in_order(self):
        names = {}
        for module in MODULES:
            names.update({key: worth for key, worth in vars(module).items() if not key.startswith("_")})
        package = dict(names)
        seen = 0
        for section in SECTIONS:
            for code, told in steps_of(section):
                with self.subTest(section=section, code=code):
                    if not is_expression(code):
                        exec(code, names)
                        self.assertEqual(told, [])
                        continue
                    self.assertEqual(told, [outcome(code, names)])
                    self.assertEqual(told, [outcome(by_name(code, package), names)])
                    seen += 1
        self.assertEqual(seen, 91)

    def test_readme(self):
        path = os.path.join(FOLDER, os.pardir, os.pardir, "README.md")
        self.assertEqual(doctest.testfile(path, module_relative=False).failed, 0)


if __name__ == "__main__":
    unittest.main()
