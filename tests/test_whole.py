"""What the document promises over the whole program, from section 1 to 24, across the files."""

import copy
import importlib
import inspect
import random
import unittest

from stillpanes import (bars, bounds, boxes, changes, desk, drawings, flat, follow, judge, layouts, levels, partings,
                        people, rules, sharp, shown, states, texts, wishes)
from stillpanes.window import Window
from tests.reckon import (CAN_NOT, FIVE, LONE, POINT, THIRDS, WRONG, all_boxes, answer, boxes_by, capped, final_of,
                          groups_of, layout_by, layouts_by, listed, loosened, off_in, outcome, refusal, splits_of)
from tests.test_interface import INTERFACE, listed_functions

DRAWN = layouts_by(240, 40, 5, 7, 6) + [THIRDS, FIVE, LONE, POINT]
RULES = ((1, 2, None), (2, 0, 3), (1, 0, None))
NEST, TWO = ((0, 1), (0, 1, 2), (3, 4)), ((0,), (1,))
ROW, DRAWING = (0, 0, 1, 2, 2, 3, 3), (0, 1, 1, 4, 1, 2)
PANES = tuple(((pane,), 1) for pane in range(5))
WEST = tuple(sorted(PANES + (((0, 1), 1),)))
BOTH = tuple(sorted(WEST + (((3, 4), 1),)))
SHOWN = ((0, 1, 0, 1, 1, 1, 1), (0, 0, 1, 1, 2, 3, 3), (0, 0, 1, 1, 1, 1, 1), (0, 0, 0, 0, 0, 0, 1), (0,) * 7)
CLAIMS = (("follows", FIVE, TWO, ROW, 2), ("keeps", FIVE, BOTH), ("moves", FIVE, DRAWING, WEST, 9),
          ("falls", FIVE, BOTH, 0), ("still", FIVE, SHOWN), ("deep", FIVE, NEST, DRAWING))

# what is handed over by each name, where nothing else is told for a function
HANDED = {"layout": FIVE, "group": (0, 1), "split": TWO, "other": (2, ((0, 2),) + ((0, 0),) * 4), "width": 3, "low": 1,
          "high": 4, "many": 3, "rules": RULES, "pane": 1, "last": 6, "shares": (2, 1, 4),
          "panes": 3, "mosts": (2, 3), "boxes": NEST, "drawing": DRAWING, "row": ROW, "limits": WEST, "shown": SHOWN,
          "off": 2, "number": 1, "parts": 4, "more": 2, "depth": 2, "box": (0, 1), "theta": 1, "groups": TWO,
          "wishes": ((0, 0), (3, 1)), "pixel": 2, "way": "floors", "total": 7, "change": ("give", 1, 0, 6, 1),
          "pixels": (0, 2), "claim": CLAIMS[0], "claims": CLAIMS, "things": (None,) * 6}
OTHER = {"merged": {"split": ((0, 1), (2,), (3, 4))}, "box_more": {"boxes": ((0, 1),), "group": (3, 4)},
         "drawing_of": {"shown": tuple(tuple(DRAWING[:own].count(pane) for own in range(7)) for pane in range(5))},
         "hardest": {"many": 4}, "barred": {"panes": 5}, "low_high": {"low": 2, "high": 2},
         "low_high_cases": {"low": 2, "high": 2}, "cases": {"boxes": ((0, 1), (3, 4)), "limits": BOTH},
         "ranges": {"boxes": ((0, 1), (3, 4))}, "is_cases": {"boxes": ((0, 1), (3, 4)), "limits": BOTH},
         "ring": {"wishes": ((0, 1, 1, 1), (0, 2, 0, 0))}, "is_ring": {"wishes": ((0, 1, 1, 1), (0, 2, 0, 0))},
         "lowest_row": {"wishes": ((1, 3, 1, 9),)}, "highest_row": {"wishes": ((1, 3, 1, 9),)},
         "why_unfit": {"row": (0, 0, 0, 0, 0, 0, 0)}, "drawing_by": {"row": (0, 0, 1, 1, 2, 3, 3)},
         "press": {"off": 0}, "flat_press": {"off": 0}, "drawing_number": {"drawing": (0, 2, 1, 1, 4, 1)},
         "moved": {"other": (0, 2, 1, 1, 4, 1)}, "clash": {"wishes": ((0, 0), (5, 2))},
         "desk": {"text": "limit 2 0\nmany\nat"}, "row_told": {"row": (0, 1)},
         "read_layout": {"text": "layout 1\npane 0 1\n"}, "read_boxes": {"text": "boxes\nbox 0 1\n"},
         "read_drawing": {"text": "drawing 0 1\n"}, "read_row": {"text": "row 0 1\n"},
         "read_limits": {"text": "limits\noff 1 0\n"}, "read_shown": {"text": "shown\npane 0 1\n"}}
# makers, and who judges what they make
PAIRS = ((shown.least_shown, shown.is_least_shown), (shown.levels, shown.are_levels), (flat.flat, flat.is_flat),
         (follow.followed, follow.are_followed), (follow.press, follow.is_press), (flat.flat_press, flat.is_flat_press),
         (sharp.hardest_row, sharp.is_hardest), (levels.by_levels, levels.is_by_levels), (levels.filled, levels.fills),
         (partings.why_unfit, partings.is_why_unfit), (partings.ring, partings.is_ring), (bars.cases, bars.is_cases),
         (states.table, states.is_table), (wishes.clash, wishes.is_clash),
         (changes.least_moved, changes.is_least_moved), (rules.rule_layout, layouts.is_layout),
         (boxes.borders, boxes.is_boxes), (flat.earliest, drawings.is_drawing), (bounds.least_row, drawings.is_row),
         (people.by_borders, shown.is_shown))


def functions():
    """All functions of the interface, each with its name and the names of its arguments."""
    for module, text in INTERFACE.items():
        loaded = importlib.import_module("stillpanes." + module)
        for name, arguments in listed_functions(text):
            yield getattr(loaded, name), name, arguments


def handed(name, arguments):
    """What is handed to the function of this name; None for thing."""
    told = {**HANDED, **OTHER.get(name, {})}
    return {own: None if own == "thing" else told[own] for own in arguments}


def is_told(worth):
    """Whether all that is told is a number, True, False, None, a string, a list or a tuple of such."""
    if type(worth) in (list, tuple):
        return all(map(is_told, worth))
    return worth is None or type(worth) in (int, bool, str)


def lists_in(worth):
    """How many lists are told within."""
    if type(worth) not in (list, tuple):
        return 0
    return (type(worth) is list) + sum(map(lists_in, worth))


class EachFunction(unittest.TestCase):
    def test_told_alike_again_with_lists_and_by_name(self):
        for function, name, arguments in functions():
            told = handed(name, arguments)
            with self.subTest(name=name):
                worth = answer(function, *[told[own] for own in arguments])
                self.assertTrue(is_told(worth))
                # a list is told only where no tuple is named: never within a tuple
                self.assertEqual(lists_in(worth), int(type(worth) is list))

    def test_nothing_told_is_kept(self):
        for function, name, arguments in functions():
            told = [loosened(own, it) for own, it in handed(name, arguments).items()]
            kept = copy.deepcopy(told)
            first = function(*told)
            again = copy.deepcopy(first)
            if type(first) is list:
                first.append("more")
                first.reverse()
            with self.subTest(name=name):
                self.assertEqual(repr(function(*told)), repr(again))
                self.assertEqual(repr(told), repr(kept))

    def test_what_is_told_is_apart_from_what_was_handed_in(self):
        for function, name, arguments in functions():
            told = handed(name, arguments)
            loose = {own: listed(it) for own, it in told.items()}
            first = function(**loose)
            again = copy.deepcopy(first)
            for own in loose.values():
                if type(own) is list:
                    own.clear()
            with self.subTest(name=name):
                self.assertEqual(repr(first), repr(again))

    def test_wrong_things(self):
        seen = 0
        for function, name, arguments in functions():
            if "thing" not in arguments:
                continue
            told = handed(name, arguments)
            for thing in WRONG:
                self.assertIs(type(function(**{**told, "thing": thing})), bool)
            for thing in (None, True, False, -1, 0, 1, "", "thing", [], [()], ((None,),), [None], (True, False)):
                self.assertIs(function(**{**told, "thing": thing}), False, (name, thing))
            seen += 1
        self.assertEqual(seen, 30)

    def test_made_and_judged(self):
        for maker, judging in PAIRS:
            names = list(inspect.signature(judging).parameters)[:-1]
            told = handed(maker.__name__, list(inspect.signature(maker).parameters))
            made = maker(**told)
            with self.subTest(name=maker.__name__):
                mine = [{**HANDED, **OTHER.get(maker.__name__, {})}[own] for own in names]
                self.assertIs(answer(judging, *mine, made), True)
                self.assertIs(answer(judging, *mine, list(made)), False)
                self.assertIs(answer(judging, *mine, (made,)), False)
                self.assertIs(answer(judging, *mine, made + (made,)), False)

    def test_all_arguments_are_told(self):
        names = {own for _, _, arguments in functions() for own in arguments}
        self.assertLessEqual(names, set(HANDED) | {"thing", "text"})


class Drawn(unittest.TestCase):
    """What several files tell of the same, over small drawn LAYOUTS."""

    def test_half_a_pixel_a_level(self):
        draw = random.Random(241)
        for layout in DRAWN:
            told = boxes_by(draw, len(layout[1]))
            drawing = answer(levels.by_levels, layout, told)
            self.assertIs(answer(judge.is_so, ("deep", layout, told, drawing)), True)
            for group in told + tuple((pane,) for pane in range(len(layout[1]))):
                depth = boxes.depth(layout, told, group)
                self.assertLess(2 * off_in(layout, drawing, group), (depth + 1) * layout[0])
                self.assertLessEqual(off_in(layout, drawing, group), levels.promise_at(layout[0], depth))

    def test_flat_is_follow_is_states(self):
        for layout in DRAWN:
            lone = tuple((pane,) for pane in range(len(layout[1])))
            whole = tuple(range(final_of(layout) + 1))
            least = answer(flat.least_flat, layout)
            self.assertEqual(least, answer(follow.least_follow, layout, lone, whole))
            self.assertEqual(least, answer(states.least_off, layout, (), lone))
            self.assertLessEqual(least, flat.promise(len(lone), layout[0]))
            for off in {max(0, least - 1), least, least + 1}:
                limits = tuple((group, off) for group in lone)
                self.assertIs(answer(states.falls_at, layout, limits) is None, off >= least)
                self.assertIs(answer(judge.is_so, ("keeps", layout, limits)), off >= least)
                self.assertIs(answer(judge.is_so, ("follows", layout, lone, whole, off)), off >= least)
                if off >= least:
                    drawing = flat.flat(layout, off)
                    self.assertIs(drawings.keeps(layout, drawing, limits), True)
                    self.assertIs(judge.is_paper_for(("keeps", layout, limits), drawing), True)
                    self.assertEqual(answer(changes.fewest_moved, layout, drawing, limits), 0)

    def test_follow_any_row_by_half_a_pixel_more(self):
        draw = random.Random(242)
        for layout in DRAWN:
            for group in groups_of(len(layout[1]))[:4]:
                split = draw.choice(splits_of(group))
                row = drawings.row_of(layout, [draw.randrange(len(layout[1])) for _ in range(final_of(layout))], group)
                off = drawings.off_of(layout, group, row)
                least = answer(follow.least_follow, layout, split, row)
                self.assertLessEqual(2 * least, layout[0] + 2 * max(off, (layout[0] + 1) // 2))
                self.assertEqual(answer(sharp.half_kept, layout, split, row), (off, least))
                self.assertLessEqual(least, answer(sharp.whatever_row, layout, split, off))
                for by in (max(0, least - 1), least):
                    self.assertIs(bool(answer(bounds.crowded, layout, split, row, by)), by < least)

    def test_one_parting(self):
        draw = random.Random(243)
        for many in (4, 5):
            for told in all_boxes(many)[::2]:
                layout = layout_by(draw, many, 6, 3)
                if boxes.tells_one(layout, told):
                    groups = told + tuple((pane,) for pane in range(many))
                    limits = tuple(sorted((group, layout[0] - 1) for group in groups))
                    self.assertIsNone(answer(states.falls_at, layout, limits))
                    self.assertEqual(answer(shown.fewest_falls, layout, limits), 0)
                    self.assertEqual(refusal(bars.barred, many, told), CAN_NOT)
                    continue
                layout = answer(bars.barred, many, told)
                groups = told + tuple((pane,) for pane in range(many))
                limits = tuple(sorted((group, layout[0] - 1) for group in groups))
                self.assertIsNotNone(answer(states.falls_at, layout, limits))
                self.assertIs(bars.is_cases(layout, told, limits, bars.cases(layout, told, limits)), True)
                self.assertIs(judge.is_so(("keeps", layout, limits)), False)

    def test_borders_of_at_most_four_panes(self):
        for layout in DRAWN:
            told = answer(boxes.borders, layout)
            self.assertIs(boxes.tells_one(layout, told), len(layout[1]) <= 4)
            self.assertIs(boxes.is_boxes(layout, told), True)

    def test_drawings_or_papers(self):
        # a DRAWING, a TABLE, CASES, LEVELS and CLASHES tell the same of the same LIMITS
        draw = random.Random(244)
        seen = {True: 0, False: 0}
        for layout in DRAWN * 2:
            parts, told = layout[0], boxes_by(draw, len(layout[1]))
            if final_of(layout) * (len(layout[1]) + len(told)) > 40:
                continue
            groups = told + tuple((pane,) for pane in range(len(layout[1])))
            limits = tuple(sorted((group, draw.randint(parts // 2, 2 * parts // 3)) for group in groups))
            can = states.falls_at(layout, limits) is None
            seen[can] += 1
            self.assertIs(answer(wishes.can_be, layout, limits, ()), can)
            self.assertIs(states.how_many_drawings(layout, limits) > 0, can)
            if can:
                drawing = answer(wishes.good_drawing, layout, limits, ())
                self.assertEqual(drawing, states.least_drawing(layout, limits))
                self.assertEqual(answer(shown.fewest_falls, layout, limits), 0)
                self.assertEqual(refusal(bars.cases, layout, told, limits), CAN_NOT)
                self.assertEqual(refusal(wishes.clash, layout, limits, ()), CAN_NOT)
                self.assertIs(answer(shown.is_least_shown, layout, limits, shown.shown_by(layout, drawing)), True)
                continue
            self.assertIs(answer(bars.is_cases, layout, told, limits, bars.cases(layout, told, limits)), True)
            self.assertEqual(answer(wishes.clash, layout, limits, ()), ())
            self.assertEqual(states.table(layout, limits)[-1], ())
            kind, worth = outcome(shown.fewest_falls, (layout, limits), {})[:2]
            self.assertTrue(worth > 0 if kind == "told" else worth == "CanNot")
        self.assertGreater(min(seen.values()), 8)

    def test_wishes_by_number(self):
        for layout in (FIVE, THIRDS, layout_by(random.Random(245), 4, 6, 5)):
            limits = tuple(((pane,), layout[0] - 1) for pane in range(len(layout[1])))
            many = states.how_many_drawings(layout, limits)
            kept = [states.drawing_at(layout, limits, number) for number in range(many)]
            self.assertEqual(kept, sorted(set(kept)))
            for pixel in range(final_of(layout)):
                panes = answer(wishes.who_gets, layout, limits, (), pixel)
                self.assertEqual(panes, tuple(sorted({own[pixel] for own in kept})))
                least = [min(own for own in kept if own[pixel] == pane) for pane in panes]
                self.assertEqual([wishes.good_drawing(layout, limits, ((pixel, pane),)) for pane in panes], least)

    def test_group_rows_in_drawings_snug_for_all(self):
        for layout in DRAWN:
            if not 2 <= len(layout[1]) <= 4 or final_of(layout) > 6:
                continue
            group = (0,) if len(layout[1]) == 2 else (0, 1)
            lone = {((pane,), layout[0] - 1) for pane in range(len(layout[1]))}
            limits = tuple(sorted(lone | {(group, layout[0] - 1)}))
            many = states.how_many_drawings(layout, limits)
            kept = [states.drawing_at(layout, limits, number) for number in range(many)]
            rows = sorted({drawings.row_of(layout, own, group) for own in kept})
            self.assertEqual(answer(partings.all_rows, layout, group), rows)
            lows, highs = zip(*[(min(own), max(own)) for own in zip(*rows)])
            self.assertEqual(answer(partings.lowest_row, layout, group, ()), lows)
            self.assertEqual(answer(partings.highest_row, layout, group, ()), highs)
            for width in range(final_of(layout) + 1):
                told = answer(wishes.pixels_between, layout, limits, (), group, width)
                self.assertEqual(told, (lows[width], highs[width]))

    def test_finer_and_lowest(self):
        for layout in DRAWN:
            low, fine = answer(layouts.lowest, layout), answer(layouts.finer, layout, 3)
            self.assertEqual(layouts.lowest(fine), low)
            for way in ("borders", "running", "floors"):
                self.assertEqual(len({people.shown_as(own, way) for own in (layout, low, fine)}), 1)
            self.assertEqual(flat.least_flat(fine), 3 * flat.least_flat(layout))
            self.assertEqual(flat.least_flat(low) * (layout[0] // low[0]), flat.least_flat(layout))

    def test_merged_boxes(self):
        draw = random.Random(246)
        for layout in DRAWN:
            split = draw.choice(splits_of(tuple(range(len(layout[1])))))
            told = answer(layouts.merged, layout, split)
            drawing = tuple(draw.randrange(len(layout[1])) for _ in range(final_of(layout)))
            place = {pane: at for at, group in enumerate(split) for pane in group}
            merged = tuple(place[pane] for pane in drawing)
            for at, group in enumerate(split):
                self.assertEqual(drawings.row_of(told, merged, (at,)), drawings.row_of(layout, drawing, group))
                self.assertEqual(off_in(told, merged, (at,)), off_in(layout, drawing, group))

    def test_layouts_behind_changes(self):
        draw = random.Random(247)
        seen = 0
        for layout in DRAWN:
            if len(layout[1]) < 2:
                continue
            drawing = flat.flat(layout, layout[0])
            for change in (("exchange", 0, 1), ("out", 0, 1), ("out", 1, 0),
                           ("split", 0, tuple(own // 2 for own in layout[1][0])),
                           ("give", 0, 1, draw.randint(0, final_of(layout)), 1)):
                self.assertIs(changes.is_change(change), True)
                told = outcome(changes.changed, (layout, change), {})
                if told[0] == "raised":
                    continue
                seen += 1
                behind, own = told[1], answer(changes.drawing_behind, layout, drawing, change)
                self.assertIs(layouts.is_layout(behind), True)
                self.assertIs(drawings.is_drawing(behind, own), True)
                lone = tuple((pane,) for pane in range(len(behind[1])))
                least = flat.least_flat(behind)
                limits = tuple((group, least) for group in lone)
                fewest = answer(changes.fewest_moved, behind, own, limits)
                moves = changes.moved(behind, own, changes.least_moved(behind, own, limits))
                self.assertEqual(len(moves), fewest)
                self.assertLessEqual(answer(changes.out_by, behind, own, limits), fewest)
                self.assertLessEqual(set(changes.must_move(behind, own, limits)), set(moves))
                self.assertGreaterEqual(changes.stays_to(behind, own, limits), min(moves, default=len(own)))
                self.assertIs(judge.is_so(("moves", behind, own, limits, fewest)), True)
                self.assertIs(fewest > 0 and judge.is_so(("moves", behind, own, limits, fewest - 1)), False)
        self.assertGreater(seen, 80)

    def test_windows_and_tables(self):
        draw = random.Random(248)
        for layout in DRAWN:
            told = boxes_by(draw, len(layout[1]))
            drawing = levels.by_levels(layout, told)
            own, table = Window(layout, told, drawing), shown.shown_by(layout, drawing)
            self.assertEqual(answer(shown.drawing_of, layout, table), drawing)
            self.assertEqual((shown.trembles(table), shown.gapes(table), people.falls_in_all(table)), ((), (), 0))
            self.assertEqual(people.quiet_to(table), final_of(layout))
            for width in range(final_of(layout), -1, -1):
                own.pulled(width)
                self.assertEqual(own.panes_at(), tuple(row[width] for row in table))
                for group in groups_of(len(layout[1]))[:8]:
                    self.assertEqual(own.pixels(group), drawings.pixels(layout, drawing, group, width))
                    row = drawings.row_of(layout, drawing, group)
                    self.assertEqual(own.off(group), drawings.off_at(layout, group, row, width))
                self.assertEqual(len(own.picture()[0]), width)
            self.assertIs(judge.is_paper_for(("still", layout, table), drawing), True)

    def test_roundings_are_claims_that_are_not_still(self):
        seen = set()
        for layout in DRAWN:
            for way in ("borders", "running", "floors"):
                table = people.shown_as(layout, way)
                calm = people.quiet_to(table) == final_of(layout)
                seen.add(calm)
                self.assertIs(answer(judge.is_so, ("still", layout, table)), calm)
                worst = people.worst_off(layout, table)
                trouble = people.first_trouble(layout, table, worst)
                self.assertIs(trouble is None, calm)
                if not calm:
                    self.assertEqual(trouble[1], "trembles")
                    paper = (trouble[0], trouble[2])
                    self.assertIs(judge.is_paper_against(("still", layout, table), paper), True)
                    self.assertEqual(refusal(shown.drawing_of, layout, table), CAN_NOT)
        self.assertEqual(seen, {True, False})

    def test_texts_of_what_is_made(self):
        made = [rules.rule_layout(RULES, 8), rules.by_turns((2, 3), 9), flat.hardest(5), bars.low_high(2, 3)[0],
                sharp.sharp(5, 4, 2)[0], layouts.led_on(FIVE), bars.barred(5, ((0, 1), (3, 4)))]
        for layout in made + DRAWN:
            self.assertIs(layouts.is_layout(layout), True)
            self.assertEqual(texts.read_layout(texts.layout_told(layout)), layout)
            drawing = flat.flat(layout, layout[0])
            self.assertEqual(texts.read_drawing(texts.drawing_told(drawing)), drawing)
            for table in (shown.shown_by(layout, drawing), people.by_floors(layout)):
                self.assertEqual(texts.read_shown(texts.shown_told(table)), table)
                row = table[0]
                if drawings.is_row(layout, row):
                    self.assertEqual(texts.read_row(texts.row_told(row)), row)
            told = boxes.borders(layout)
            self.assertEqual(texts.read_boxes(texts.boxes_told(told)), told)
            limits = tuple((group, layout[0]) for group in told)
            self.assertEqual(texts.read_limits(texts.limits_told(limits)), limits)

    def test_desks_tell_what_the_files_tell(self):
        draw = random.Random(249)
        for layout in DRAWN:
            told, parts = boxes_by(draw, len(layout[1])), layout[0]
            limits = tuple(((pane,), draw.choice((parts - 1, parts))) for pane in range(len(layout[1])))
            width, group = draw.randint(0, final_of(layout)), draw.choice(groups_of(len(layout[1])))
            lines = []
            for word, text in (("layout", texts.layout_told(layout)), ("boxes", texts.boxes_told(told)),
                               ("limits", texts.limits_told(limits))):
                lines.extend([word] + [" " + line for line in text.split("\n")[:-1]])
            panes = " ".join(map(str, group))
            lines += [f"pull {width}", "drawing", "panes", "many", "falls", f"exact {panes}", f"bounds {parts} {panes}"]
            replies = answer(desk.desk, "\n".join(lines))
            self.assertEqual(replies[:4], ["done"] * 4)
            least = states.least_drawing(layout, limits)
            pair = bounds.bounds(layout, group, width, parts)
            expected = [least, shown.shown_by(layout, least), states.how_many_drawings(layout, limits), None,
                        layouts.exact(layout, group, width), pair]
            expected[1] = [row[width] for row in expected[1]]
            words = ["-" if own is None else " ".join(map(str, own)) if type(own) in (list, tuple) else str(own)
                     for own in expected]
            self.assertEqual(replies[4:], words)


class Bounded(unittest.TestCase):
    def test_at_the_bounds(self):
        # 12 panes, a LAST of 40, 10^6 parts, 10 BOXES, 40 LIMITS
        draw = random.Random(250)
        layout = layout_by(draw, 12, 40, 10 ** 6)
        told = tuple(tuple(range(many)) for many in range(2, 12))
        self.assertIs(boxes.is_boxes(layout, told), True)
        drawing = answer(levels.by_levels, layout, told)
        self.assertIsNone(levels.first_over(layout, told, drawing))
        groups = draw.sample(groups_of(12), 40)
        limits = tuple(sorted((group, 10 ** 9) for group in groups))
        self.assertIs(answer(drawings.keeps, layout, drawing, limits), True)
        self.assertEqual(answer(changes.out_by, layout, drawing, limits), 0)
        self.assertLessEqual(answer(flat.least_flat, layout), flat.promise(12, 10 ** 6))
        self.assertEqual(texts.read_layout(texts.layout_told(layout)), layout)
        own = Window(layout, told, drawing)
        own.pulled(40)
        self.assertEqual(len(own.picture()), 11)
        self.assertEqual(sum(own.panes_at()), 40)

    def test_beyond_the_bounds(self):
        # what is returned may be greater, and may be passed in again
        layout = layouts.finer(rules.by_shares((997, 991, 983, 977), 40), 10 ** 6)
        self.assertGreater(layout[0], 10 ** 9)
        drawing = answer(flat.flat, layout, answer(flat.least_flat, layout))
        self.assertIs(judge.is_so(("deep", layout, (), drawing)), True)
        joined = layouts.joined_behind(layout, layout)
        self.assertEqual(final_of(joined), 80)
        self.assertIs(drawings.is_drawing(joined, flat.earliest(joined, layout[0])), True)
        more = changes.changed(flat.hardest(12), ("split", 0, (0,) * 12))
        self.assertEqual(len(more[1]), 13)
        self.assertLessEqual(flat.least_flat(more), flat.promise(13, 22))

    def test_the_same_bound_everywhere(self):
        layout, limits = capped((1, 7, 12, 12, 12), 14)
        drawing = (5,) * 14
        for function, args in ((states.table, (layout, limits)), (wishes.can_be, (layout, limits, ())),
                               (changes.fewest_moved, (layout, drawing, limits)),
                               (judge.is_so, (("keeps", layout, limits),)), (states.least_off, (layout, limits, TWO))):
            self.assertEqual(refusal(function, *args), ("TooMuch",))


class Apart(unittest.TestCase):
    def test_a_list_is_nowhere_a_tuple(self):
        # whatever a judge takes, it takes none of it with a list for a tuple
        made = [FIVE, RULES, NEST, TWO, ROW, DRAWING, WEST, SHOWN, ("bare", 0, 1), ("more", 0, 2), ((0, 0), (3, 1)),
                ("out", 0, 1), CLAIMS[0], (), (0,), ((0,),), (0, 1, 2)]
        taken = set()
        for function, name, arguments in functions():
            if "thing" not in arguments:
                continue
            told = handed(name, arguments)
            for thing in made:
                if function(**{**told, "thing": thing}):
                    taken.add(name)
                    for wrong in (list(thing), listed(thing)):
                        self.assertIs(function(**{**told, "thing": wrong}), False, (name, thing))
        self.assertGreater(len(taken), 10)


if __name__ == "__main__":
    unittest.main()
