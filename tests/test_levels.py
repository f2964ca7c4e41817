"""Section 13: level by level."""

import itertools
import random
import unittest

from stillpanes import levels
from tests.reckon import (FIVE, LONE, POINT, THIRDS, UNFIT, WRONG, all_boxes, answer, boxes_by, drawings_to, final_of,
                          in_drawing, layout_by, layouts_by, off_by, presses_by_hand, refusal, rows_to, spoiled, wide)

NEST = ((0, 1), (0, 1, 2), (3, 4))


def half_more_by_hand(parts, off):
    least = 0
    while 2 * least + 1 < parts + max(parts, 2 * off):
        least += 1
    return least


def promise_by_hand(parts, depth):
    told = parts - 1
    for _ in range(depth - 1):
        told = half_more_by_hand(parts, told)
    return told


def groups_by_hand(layout, boxes):
    return sorted([*boxes, *((pane,) for pane in range(len(layout[1])))])


def depth_by_hand(boxes, group):
    return 1 + len([box for box in boxes if set(group) < set(box)])


def things_by_hand(layout, boxes, holder):
    """The boxes and lone panes within the holder, and within no box that is within it and has them and more."""
    inner = [own for own in groups_by_hand(layout, boxes) if set(own) < set(holder)]
    if len(layout[1]) == 1:
        inner = [(0,)]
    return tuple(own for own in inner if not any(set(own) < set(box) < set(holder) for box in boxes))


def row_by_hand(layout, drawing, group):
    return tuple(in_drawing(drawing, group, width) for width in range(final_of(layout) + 1))


def over_by_hand(layout, boxes, drawing):
    """All triples (depth, group, width) that are off by more than promised."""
    found = []
    for group in groups_by_hand(layout, boxes):
        depth = depth_by_hand(boxes, group)
        for width, many in enumerate(row_by_hand(layout, drawing, group)):
            if abs(many * layout[0] - wide(layout, group, width)) > promise_by_hand(layout[0], depth):
                found.append((depth, group, width))
    return found


def fills_by_hand(layout, boxes, box, row, panes):
    """Whether a tuple of panes fills row, word by word."""
    if type(panes) is not tuple or len(panes) != row[-1]:
        return False
    if not all(type(own) is int and own in box for own in panes):
        return False
    most = {box: off_by(layout, box, row)}
    for group in sorted(groups_by_hand(layout, boxes), key=len, reverse=True):
        if set(group) < set(box):
            around = [own for own in most if set(group) < set(own)]
            most[group] = half_more_by_hand(layout[0], most[min(around, key=len)])
            inner = tuple(len([pane for pane in panes[:many] if pane in group]) for many in row)
            if off_by(layout, group, inner) > most[group]:
                return False
    return True


def least_by_hand(layout, split, row):
    off = 0
    while presses_by_hand(layout, split, row, off):
        off += 1
    return off


def small_cases(seed, many, panes=4, final=4):
    draw = random.Random(seed)
    made = [(own, boxes_by(draw, len(own[1]))) for own in layouts_by(seed, many, panes, final, 5)]
    return made + [(THIRDS, ((0, 1),)), (THIRDS, ()), (LONE, ()), (POINT, ((0, 2),)), (POINT, ())]


class Numbers(unittest.TestCase):
    def test_half_more(self):
        for parts in range(1, 25):
            for off in range(60):
                self.assertEqual(answer(levels.half_more, parts, off), half_more_by_hand(parts, off))
        self.assertEqual(answer(levels.half_more, 10 ** 6, 10 ** 9), 10 ** 9 + 5 * 10 ** 5)
        self.assertEqual(answer(levels.half_more, 10 ** 6 - 1, 0), 10 ** 6 - 1)

    def test_promise_at(self):
        for parts in range(1, 25):
            for depth in range(1, 15):
                told = answer(levels.promise_at, parts, depth)
                self.assertEqual(told, promise_by_hand(parts, depth))
                self.assertLess(2 * told, (depth + 1) * parts)
        self.assertEqual(answer(levels.promise_at, 10 ** 6, 11), 5999999)
        self.assertEqual(answer(levels.promise_at, 1, 10 ** 6), 1)


class Drawings(unittest.TestCase):
    def test_by_levels_within_the_promise(self):
        draw = random.Random(100)
        drawn = [layout_by(draw, draw.randint(2, 12), draw.randint(1, 16), draw.randint(1, 9)) for _ in range(60)]
        made = [(own, boxes_by(draw, len(own[1])) if len(own[1]) < 7 else self.chain(draw, len(own[1])))
                for own in drawn]
        for layout, boxes in made + small_cases(101, 40) + [(FIVE, own) for own in all_boxes(5)]:
            drawing = answer(levels.by_levels, layout, boxes)
            self.assertEqual(len(drawing), final_of(layout))
            self.assertLessEqual(set(drawing), set(range(len(layout[1]))))
            self.assertEqual(over_by_hand(layout, boxes, drawing), [])
            self.assertIs(answer(levels.is_by_levels, layout, boxes, drawing), True)

    def chain(self, draw, panes):
        """BOXES within BOXES, as deep as can be, of the panes in some order."""
        order = draw.sample(range(panes), panes)
        return tuple(sorted(tuple(sorted(order[:many])) for many in range(2, panes)))[:10]

    def test_is_by_levels_for_all_drawings(self):
        for layout, boxes in small_cases(102, 25):
            for own in drawings_to(len(layout[1]), final_of(layout)):
                over = over_by_hand(layout, boxes, own)
                self.assertIs(answer(levels.is_by_levels, layout, boxes, own), not over)
                self.assertEqual(answer(levels.first_over, layout, boxes, own), min(over, default=None))

    def test_offs_by_depth(self):
        draw = random.Random(103)
        for layout, boxes in small_cases(104, 25) + [(FIVE, NEST), (FIVE, ((0, 1), (0, 1, 2), (0, 1, 2, 3)))]:
            for _ in range(3):
                own = draw.choice(drawings_to(len(layout[1]), final_of(layout)))
                found = {}
                for group in groups_by_hand(layout, boxes):
                    off = off_by(layout, group, row_by_hand(layout, own, group))
                    depth = depth_by_hand(boxes, group)
                    found[depth] = max(found.get(depth, 0), off)
                self.assertEqual(sorted(found), list(range(1, len(found) + 1)))
                told = answer(levels.offs_by_depth, layout, boxes, own)
                self.assertEqual(told, tuple(found[key] for key in sorted(found)))

    def test_things(self):
        for layout, boxes in ((THIRDS, ((0, 1),)), (POINT, ()), (LONE, ()), (FIVE, NEST)):
            drawings = set(drawings_to(len(layout[1]), final_of(layout)))
            things = list(WRONG)
            for own in [levels.by_levels(layout, boxes)] + sorted(drawings)[:3]:
                things.extend(spoiled(own) + [list(own)])
            for thing in things:
                is_one = (type(thing) is tuple and all(type(own) is int for own in thing) and thing in drawings
                          and not over_by_hand(layout, boxes, thing))
                self.assertIs(answer(levels.is_by_levels, layout, boxes, thing), is_one)

    def test_first_over_of_deeper_ones(self):
        drawing = (4, 4, 4, 4, 4, 4)
        found = over_by_hand(FIVE, NEST, drawing)
        self.assertGreater(len({own[0] for own in found}), 1)
        self.assertEqual(answer(levels.first_over, FIVE, NEST, drawing), min(found))
        self.assertIsNone(answer(levels.first_over, FIVE, NEST, levels.by_levels(FIVE, NEST)))

    def test_held(self):
        draw = random.Random(105)
        for layout, boxes in small_cases(106, 30) + [(FIVE, own) for own in all_boxes(5)[::9]]:
            every = tuple(range(len(layout[1])))
            for own in draw.sample(drawings_to(len(layout[1]), final_of(layout)), 1):
                found = []
                for holder in sorted({*boxes, every}):
                    row = row_by_hand(layout, own, holder)
                    things = things_by_hand(layout, boxes, holder)
                    offs = [off_by(layout, it, row_by_hand(layout, own, it)) for it in things]
                    found.append((holder, off_by(layout, holder, row), max(offs), least_by_hand(layout, things, row)))
                self.assertEqual(answer(levels.held, layout, boxes, own), found)
                for _, off, third, fourth in found:
                    self.assertGreaterEqual(third, fourth)
                    self.assertLessEqual(fourth, half_more_by_hand(layout[0], off) if off else layout[0] - 1)


class Filled(unittest.TestCase):
    def test_each_row_is_filled(self):
        for layout, boxes in small_cases(107, 40, 5, 5) + [(FIVE, NEST), (FIVE, ((0, 1, 2, 3), (1, 2)))]:
            for box in boxes:
                for row in rows_to(final_of(layout)):
                    panes = answer(levels.filled, layout, boxes, box, row)
                    self.assertTrue(fills_by_hand(layout, boxes, box, row, panes))
                    self.assertIs(answer(levels.fills, layout, boxes, box, row, panes), True)

    def test_all_tuples(self):
        seen = set()
        for layout, boxes in small_cases(108, 14) + [(FIVE, ((0, 1, 2), (0, 2)))]:
            for box in boxes:
                for row in rows_to(final_of(layout))[::5]:
                    for panes in itertools.product(box, repeat=row[-1]):
                        told = fills_by_hand(layout, boxes, box, row, panes)
                        self.assertIs(answer(levels.fills, layout, boxes, box, row, panes), told)
                        seen.add(told)
        self.assertEqual(seen, {True, False})

    def test_things_within_things(self):
        # how far off the panes of the inner box may be does not hang on its own off, but on how far off it may be
        layout = (2, ((0, 1, 2, 3, 4), (0, 0, 1, 1, 2), (0, 1, 1, 2, 2), (0, 0, 0, 0, 0)))
        boxes, box = ((0, 1), (0, 1, 2)), (0, 1, 2)
        seen = set()
        for row in rows_to(4):
            for panes in itertools.product(box, repeat=row[-1]):
                told = fills_by_hand(layout, boxes, box, row, panes)
                self.assertIs(answer(levels.fills, layout, boxes, box, row, panes), told)
                seen.add(told)
        self.assertEqual(seen, {True, False})

    def test_things(self):
        for layout, boxes, box, row in ((FIVE, NEST, (0, 1, 2), (0, 1, 2, 2, 2, 3, 3)), (THIRDS, ((0, 1),), (0, 1),
                                        (0, 0, 1, 1)), (POINT, ((0, 2),), (0, 2), (0,)),
                                        (FIVE, NEST, (3, 4), (0,) * 7)):
            things = WRONG + spoiled(levels.filled(layout, boxes, box, row))
            for thing in things + [levels.filled(layout, boxes, box, row)]:
                told = fills_by_hand(layout, boxes, box, row, thing)
                self.assertIs(answer(levels.fills, layout, boxes, box, row, thing), told)

    def test_refilled(self):
        draw = random.Random(109)
        for layout, boxes in small_cases(110, 40, 5, 6) + [(FIVE, NEST)]:
            for box in boxes:
                drawing = tuple(draw.randrange(len(layout[1])) for _ in range(final_of(layout)))
                row = row_by_hand(layout, drawing, box)
                panes = list(levels.filled(layout, boxes, box, row))
                told = tuple(panes.pop(0) if pane in box else pane for pane in drawing)
                self.assertEqual(answer(levels.refilled, layout, boxes, drawing, box), told)
                self.assertEqual(row_by_hand(layout, told, box), row)

    def test_unfit(self):
        row = (0, 1, 2, 2, 2, 2, 3)
        for box in ((2,), (0,), (0, 1, 2, 3, 4), (0, 2), (1, 2), (2, 3, 4)):
            self.assertEqual(refusal(levels.filled, FIVE, NEST, box, row), UNFIT)
            self.assertEqual(refusal(levels.refilled, FIVE, NEST, (4, 4, 4, 1, 1, 1), box), UNFIT)
            for thing in WRONG[:30] + [(0, 1, 1)]:
                self.assertEqual(refusal(levels.fills, FIVE, NEST, box, row, thing), UNFIT)
        self.assertEqual(refusal(levels.filled, FIVE, (), (0, 1), row), UNFIT)
        self.assertEqual(refusal(levels.filled, LONE, (), (0,), (0, 1, 2, 3)), UNFIT)


if __name__ == "__main__":
    unittest.main()
