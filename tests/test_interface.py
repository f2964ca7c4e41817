"""What must exist by name: the error classes, the functions with their arguments, and the form of the files."""

import ast
import builtins
import importlib
import inspect
import os
import unittest

from stillpanes import errors, window

PACKAGE = os.path.dirname(os.path.abspath(errors.__file__))

INTERFACE = {
    "layouts": """is_layout(thing), is_group(layout, thing), is_split(layout, group, thing), last(layout),
        exact(layout, group, width), grown(layout, group, low, high), whole_at(layout, group), lowest(layout),
        finer(layout, many), cut_to(layout, width), merged(layout, split), led_on(layout),
        joined_behind(layout, other)""",
    "rules": """is_rules(thing), width_given(rules, pane, width), rule_layout(rules, last), free_at(rules, width),
        stops(rules, last), by_shares(shares, last), even(panes, last), by_turns(mosts, last)""",
    "boxes": """is_boxes(layout, thing), holder(layout, boxes, group), depth(layout, boxes, group),
        deepest(layout, boxes), things_of(layout, boxes, group), partings(layout, boxes), tells_one(layout, boxes),
        turned(layout, boxes, pane), borders(layout), box_more(layout, boxes, group),
        box_less(layout, boxes, group)""",
    "drawings": """is_drawing(layout, thing), is_row(layout, thing), are_limits(layout, thing),
        pixels(layout, drawing, group, width), row_of(layout, drawing, group), off_at(layout, group, row, width),
        off_of(layout, group, row), worst_at(layout, group, row), is_snug(layout, group, row),
        keeps(layout, drawing, limits), first_broken(layout, drawing, limits)""",
    "shown": """is_shown(layout, thing), trembles(shown), first_tremble(shown), gapes(shown), falls(shown),
        shown_by(layout, drawing), drawing_of(layout, shown), shown_keeps(layout, shown, limits),
        fewest_falls(layout, limits), least_shown(layout, limits), is_least_shown(layout, limits, thing),
        levels(layout, limits), are_levels(layout, limits, thing)""",
    "bounds": """bounds(layout, group, width, off), bare(layout, group, off), span(layout, group, number, off),
        comes(row, number), in_spans(layout, group, row, off), least_row(layout, group, off),
        most_row(layout, group, off), how_many_rows(layout, group, off), must(layout, split, low, high, off),
        can(layout, split, low, high, off), slack(layout, split, row, low, high, off),
        crowded(layout, split, row, off)""",
    "follow": """follows(layout, split, row, off), followed(layout, split, row, off), are_followed(layout, split, row,
        off, thing), press(layout, split, row, off), is_press(layout, split, row, off, thing),
        least_follow(layout, split, row), jumps(layout, split, row)""",
    "sharp": """half_kept(layout, split, row), reach(layout, group, off), whatever_row(layout, split, off),
        hardest_row(layout, split, off), is_hardest(layout, split, off, thing), sharp(parts, off, more)""",
    "flat": """flat(layout, off), is_flat(layout, off, thing), earliest(layout, off), least_flat(layout),
        flat_press(layout, off), is_flat_press(layout, off, thing), promise(many, parts), hardest(many)""",
    "levels": """half_more(parts, off), promise_at(parts, depth), by_levels(layout, boxes), is_by_levels(layout, boxes,
        thing), offs_by_depth(layout, boxes, drawing), first_over(layout, boxes, drawing), held(layout,
        boxes, drawing), filled(layout, boxes, box, row), fills(layout, boxes, box, row, thing),
        refilled(layout, boxes, drawing, box)""",
    "partings": """by_theta(layout, group, theta), growth(layout, group, low, high), fits_row(layout, group, row),
        why_unfit(layout, group, row), is_why_unfit(layout, group, row, thing), drawing_by(layout, group,
        row), lowest_row(layout, group, wishes), highest_row(layout, group, wishes), all_rows(layout,
        group), ring(layout, group, wishes), is_ring(layout, group, wishes, thing)""",
    "bars": """barred(panes, boxes), low_high(low, high), low_high_cases(low, high), ranges(layout, boxes, limits),
        cases(layout, boxes, limits), is_cases(layout, boxes, limits, thing)""",
    "states": """states(layout, limits, width), falls_at(layout, limits), some_drawing(layout, limits),
        least_drawing(layout, limits), how_many_drawings(layout, limits), drawing_at(layout, limits,
        number), drawing_number(layout, limits, drawing), table(layout, limits), is_table(layout, limits,
        thing), least_off(layout, limits, groups), drawing_of_least(layout, limits, groups)""",
    "wishes": """are_wishes(layout, thing), can_be(layout, limits, wishes), good_drawing(layout, limits, wishes),
        who_gets(layout, limits, wishes, pixel), sure_pixels(layout, limits, wishes), never(layout, limits, wishes),
        pixels_between(layout, limits, wishes, group, width), forced_by(layout, limits, wishes, pixel, pane),
        clash(layout, limits, wishes), is_clash(layout, limits, wishes, thing)""",
    "people": """by_borders(layout), by_running(layout), by_floors(layout), by_nests(layout, boxes),
        shown_as(layout, way), troubles(layout, shown, off), first_trouble(layout, shown, off),
        worst_off(layout, shown),
        falls_in_all(shown), quiet_to(shown), trembling_shares(way, panes, total, last)""",
    "changes": """is_change(thing), changed(layout, change), drawing_behind(layout, drawing, change),
        moved(layout, drawing, other), fewest_moved(layout, drawing, limits), least_moved(layout, drawing, limits),
        is_least_moved(layout, drawing, limits, thing), can_stay(layout, drawing, limits, pixels),
        must_move(layout, drawing, limits), stays_to(layout, drawing, limits), out_by(layout, drawing, limits)""",
    "texts": """layout_told(layout), boxes_told(boxes), drawing_told(drawing), row_told(row), limits_told(limits),
        shown_told(shown), read_layout(text), read_boxes(text), read_drawing(text), read_row(text),
        read_limits(text), read_shown(text)""",
    "judge": """is_claim(thing), is_so(claim), paper(claim), is_paper_for(claim, thing), is_paper_against(claim, thing),
        verdicts(claims, things), comes_of(claim, claims), first_false(claims)""",
    "desk": """desk(text), is_request(thing)""",
}

METHODS = """at(), pulls(), pulled(width), undone(), moved(low, high), panes_at(), pixels(group), off(group),
    pane_at(place), picture()"""

ERRORS = {"NoPlace": (LookupError, "place"), "BadText": (ValueError, "line"), "CanNot": (ValueError, None),
          "TooMuch": (ValueError, None), "Unfit": (ValueError, None)}


def listed_functions(text):
    """The pairs (name, list of the names of the arguments) of a text of the interface."""
    for node in ast.parse(" ".join(text.split()), mode="eval").body.elts:
        yield node.func.id, [own.id for own in node.args]


def trees():
    """The pairs (file name, syntax tree) of the files of the package."""
    for name in sorted(os.listdir(PACKAGE)):
        if name.endswith(".py"):
            with open(os.path.join(PACKAGE, name), encoding="utf-8") as file:
                yield name, ast.parse(file.read())


class ErrorClasses(unittest.TestCase):
    def test_bases(self):
        for name, (base, _) in ERRORS.items():
            with self.subTest(name=name):
                self.assertEqual(getattr(errors, name).__bases__, (base,))
                self.assertEqual(getattr(errors, name).__module__, "stillpanes.errors")

    def test_attributes_by_position_and_by_name(self):
        for name, (_, attribute) in ERRORS.items():
            kind = getattr(errors, name)
            if attribute is None:
                self.assertEqual(vars(kind()), {})
                with self.assertRaises(TypeError):
                    kind(1)
                continue
            for worth in (0, 7, -3, 10 ** 30):
                with self.subTest(name=name, worth=worth):
                    self.assertEqual(vars(kind(worth)), {attribute: worth})
                    self.assertEqual(vars(kind(**{attribute: worth})), {attribute: worth})
            with self.assertRaises(TypeError):
                kind()

    def test_caught_by_the_built_in_class(self):
        for name, (base, attribute) in ERRORS.items():
            with self.subTest(name=name):
                with self.assertRaises(base):
                    raise getattr(errors, name)(*([3] if attribute else []))


class Names(unittest.TestCase):
    def test_functions_and_arguments(self):
        for module, text in INTERFACE.items():
            loaded = importlib.import_module("stillpanes." + module)
            for name, arguments in listed_functions(text):
                with self.subTest(module=module, name=name):
                    function = getattr(loaded, name)
                    self.assertTrue(inspect.isfunction(function))
                    self.assertEqual(function.__module__, loaded.__name__)
                    self.assertEqual(list(inspect.signature(function).parameters), arguments)

    def test_window(self):
        kind = window.Window
        self.assertTrue(inspect.isclass(kind))
        self.assertEqual(kind.__module__, "stillpanes.window")
        self.assertEqual(list(inspect.signature(kind).parameters), ["layout", "boxes", "drawing"])
        for name, arguments in listed_functions(METHODS):
            with self.subTest(name=name):
                method = vars(kind)[name]
                self.assertTrue(inspect.isfunction(method))
                self.assertEqual(list(inspect.signature(method).parameters), ["self"] + arguments)


class Files(unittest.TestCase):
    def test_sizes_and_signs(self):
        for name, tree in trees():
            with open(os.path.join(PACKAGE, name), encoding="utf-8") as file:
                text = file.read()
            with self.subTest(name=name):
                self.assertLess(text.count("\n"), 400)
                self.assertLessEqual(max(map(len, text.split("\n"))), 120)
                self.assertLessEqual(set(text), set(map(chr, range(32, 127))) | {"\n"})
                for node in ast.walk(tree):
                    if isinstance(node, ast.FunctionDef):
                        self.assertLessEqual(node.end_lineno - node.lineno, 39, node.name)

    def test_imports(self):
        library = {"math": {"comb", "gcd", "lcm"}, "itertools": {"combinations"}}
        for name, tree in trees():
            for node in ast.walk(tree):
                with self.subTest(name=name):
                    self.assertNotIsInstance(node, ast.Import)
                    if isinstance(node, ast.ImportFrom):
                        self.assertIn(node, tree.body)
                        if node.module in library:
                            self.assertLessEqual({own.name for own in node.names}, library[node.module])
                        else:
                            self.assertEqual(node.module.split(".")[0], "stillpanes")
                            self.assert_defined(node)

    def assert_defined(self, node):
        with open(os.path.join(PACKAGE, node.module.split(".")[1] + ".py"), encoding="utf-8") as file:
            body = ast.parse(file.read()).body
        names = {own.name for own in body if isinstance(own, (ast.FunctionDef, ast.ClassDef))}
        self.assertLessEqual({own.name for own in node.names}, names)

    def test_names_mean_one_thing(self):
        for name, tree in trees():
            imported = {own.name for node in ast.walk(tree) if isinstance(node, ast.ImportFrom) for own in node.names}
            read = {node.id for node in ast.walk(tree) if isinstance(node, ast.Name) and isinstance(node.ctx, ast.Load)}
            self.assertLessEqual(imported, read, name)
            for node in ast.walk(tree):
                if isinstance(node, ast.FunctionDef):
                    own = {it.arg for it in node.args.args}
                    own |= {it.id for it in ast.walk(node)
                            if isinstance(it, ast.Name) and isinstance(it.ctx, ast.Store)}
                    with self.subTest(name=name, function=node.name):
                        self.assertEqual(own & (imported | set(dir(builtins)) - {"_"}), set())

    def test_nothing_out_of_the_subset(self):
        barred = (ast.AsyncFunctionDef, ast.AsyncFor, ast.AsyncWith, ast.Await, ast.Div, ast.MatMult)
        for name, tree in trees():
            for node in ast.walk(tree):
                with self.subTest(name=name, line=getattr(node, "lineno", 0)):
                    self.assertNotIsInstance(node, barred)
                    if isinstance(node, ast.Constant):
                        self.assertNotIsInstance(node.value, (float, complex))
                    if isinstance(node, (ast.FunctionDef, ast.ClassDef)):
                        self.assertFalse(node.name.startswith("__") and node.name != "__init__")


if __name__ == "__main__":
    unittest.main()
