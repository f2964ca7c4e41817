"""The examples of the document, word by word, from the files in the folder examples, and those of README.md."""

import ast
import doctest
import inspect
import os
import unittest

from stillpanes import (bars, bounds, boxes, changes, desk, drawings, errors, flat, follow, judge, layouts, levels,
                        partings, people, rules, sharp, shown, states, texts, window, wishes)

FOLDER = os.path.join(os.path.dirname(os.path.abspath(__file__)), "examples")
MODULES = (errors, layouts, rules, boxes, drawings, shown, bounds, follow, sharp, flat, levels, partings, bars, states,
           wishes, people, changes, window, texts, judge, desk)
SECTIONS = tuple(range(4, 24))


def steps_of(section):
    """The pairs (line of code, list of the lines told behind it) of a section."""
    steps = []
    with open(os.path.join(FOLDER, f"section_{section}.txt")) as file:
        for line in file.read().splitlines():
            if line.startswith(">>> "):
                steps.append((line[4:], []))
            else:
                steps[-1][1].append(line)
    return steps


def is_expression(code):
    """Whether a line of code is no statement."""
    return isinstance(ast.parse(code).body[0], ast.Expr)


def outcome(code, names):
    """The line that tells what comes of the code, as the document writes it."""
    try:
        return repr(eval(code, names))
    except (LookupError, ValueError) as error:
        kept = ", ".join(f"{key}={worth!r}" for key, worth in vars(error).items())
        return f"raises {type(error).__name__}({kept})"


class ByName(ast.NodeTransformer):
    """Hands each argument of a function, of the class, or of a method of the package over by its name."""

    def __init__(self, names):
        self.names = names

    def visit_Call(self, node):
        self.generic_visit(node)
        parameters = self.parameters_of(node.func)
        if parameters is None or any(isinstance(own, ast.Starred) for own in node.args):
            return node
        named = [ast.keyword(arg=key, value=worth) for key, worth in zip(parameters, node.args)]
        assert len(named) == len(parameters), ast.unparse(node)
        return ast.Call(func=node.func, args=[], keywords=named)

    def parameters_of(self, func):
        """The names of the parameters, None where it is nothing of the package's."""
        if isinstance(func, ast.Attribute) and func.attr in vars(window.Window):
            return list(inspect.signature(vars(window.Window)[func.attr]).parameters)[1:]
        own = self.names.get(func.id) if isinstance(func, ast.Name) else None
        return list(inspect.signature(own).parameters) if inspect.isroutine(own) or inspect.isclass(own) else None


def by_name(code, names):
    """The same code with the arguments of what is the package's by name."""
    return ast.unparse(ast.fix_missing_locations(ByName(names).visit(ast.parse(code))))


class Examples(unittest.TestCase):
    def setUp(self):
        self.package = {}
        for module in MODULES:
            self.package.update({key: worth for key, worth in vars(module).items() if not key.startswith("_")})

    def test_by_position(self):
        self.check_all(lambda code: code)

    def test_by_name(self):
        self.assertEqual(by_name("last(layout) + own.off((0, 1))", self.package),
                         "last(layout=layout) + own.off(group=(0, 1))")
        self.check_all(lambda code: by_name(code, self.package))

    def check_all(self, changed):
        """All examples, in order, each code changed so."""
        names = dict(self.package)
        seen = 0
        for section in SECTIONS:
            for code, told in steps_of(section):
                with self.subTest(section=section, code=code):
                    if not is_expression(code):
                        exec(changed(code), names)
                        self.assertEqual(told, [])
                        continue
                    self.assertEqual(told, [outcome(changed(code), names)])
                    seen += 1
        self.assertEqual(seen, 137)

    def test_readme(self):
        path = os.path.join(FOLDER, os.pardir, os.pardir, "README.md")
        self.assertEqual(doctest.testfile(path, module_relative=False).failed, 0)


if __name__ == "__main__":
    unittest.main()
