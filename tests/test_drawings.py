"""Section 7: drawings, rows, limits."""

import random
import unittest

from stillpanes import drawings
from tests.reckon import (FIVE, LONE, POINT, THIRDS, WRONG, answer, drawings_to, final_of, groups_of, in_drawing,
                          layouts_by, limits_by, no_place, off_by, refusal, rows_to, spoiled, splits_of, wide)

SMALL = layouts_by(40, 25, 3, 4, 5) + [THIRDS, LONE, POINT]
SOME_LIMITS = (((0,), 1), ((0, 1), 2), ((2,), 0))


def some_drawings(draw, layout, many):
    """Some DRAWINGS of a LAYOUT."""
    panes, final = len(layout[1]), final_of(layout)
    return [tuple(draw.randrange(panes) for _ in range(final)) for _ in range(many)]


def is_drawing_by_hand(layout, thing):
    return (type(thing) is tuple and len(thing) == final_of(layout)
            and all(type(own) is int and 0 <= own < len(layout[1]) for own in thing))


def is_row_by_hand(layout, thing):
    if type(thing) is not tuple or len(thing) != final_of(layout) + 1 or any(type(own) is not int for own in thing):
        return False
    return thing[0] == 0 and all(high == low or high == low + 1 for low, high in zip(thing, thing[1:]))


def is_group_by_hand(layout, thing):
    return (type(thing) is tuple and all(type(own) is int for own in thing)
            and thing in groups_of(len(layout[1])))


def are_limits_by_hand(layout, thing):
    if type(thing) is not tuple:
        return False
    for own in thing:
        if type(own) is not tuple or len(own) != 2 or not is_group_by_hand(layout, own[0]):
            return False
        if type(own[1]) is not int or own[1] < 0:
            return False
    return list(thing) == sorted(thing) and len({group for group, _ in thing}) == len(thing)


def first_broken_by_hand(layout, drawing, limits):
    found = []
    for group, off in limits:
        for width in range(final_of(layout) + 1):
            if abs(in_drawing(drawing, group, width) * layout[0] - wide(layout, group, width)) > off:
                found.append((width, group))
    return min(found) if found else None


class Things(unittest.TestCase):
    def test_is_drawing(self):
        for layout in SMALL:
            for drawing in drawings_to(len(layout[1]), final_of(layout)):
                self.assertIs(drawings.is_drawing(layout, drawing), True)
        for layout in (LONE, POINT, THIRDS, FIVE):
            for thing in WRONG + spoiled((0, 1, 2)) + spoiled((0, 0, 0)) + spoiled((4, 0, 1, 2, 3, 0)) + spoiled(()):
                self.assertIs(answer(drawings.is_drawing, layout, thing), is_drawing_by_hand(layout, thing), thing)
        self.assertIs(answer(drawings.is_drawing, POINT, ()), True)
        self.assertIs(answer(drawings.is_drawing, POINT, []), False)
        for thing in ([0, 1, 2], (0, 1, True), (0, 1, 3), (0, 1, -1), (0, 1), (0, 1, 2, 0), (0, 1, None), "012"):
            self.assertIs(answer(drawings.is_drawing, THIRDS, thing), False, thing)

    def test_is_row(self):
        for layout in SMALL:
            for row in rows_to(final_of(layout)):
                self.assertIs(drawings.is_row(layout, row), True)
        for layout in (LONE, POINT, THIRDS):
            for thing in WRONG + spoiled((0, 0, 1, 2)) + spoiled((0, 1, 2, 3)) + spoiled((0,)):
                self.assertIs(answer(drawings.is_row, layout, thing), is_row_by_hand(layout, thing), thing)
        for thing in ((0, 1, 1), (0, 1, 1, 1, 1), (0, 2, 2, 2), (0, 1, 0, 1), (1, 1, 1, 1), (0, 0, 0, True),
                      (0, -1, 0, 0), [0, 0, 1, 1], (False, 0, 0, 0), (-1, 0, 0, 0)):
            self.assertIs(answer(drawings.is_row, THIRDS, thing), False, thing)

    def test_are_limits(self):
        draw = random.Random(41)
        for layout in SMALL + [FIVE]:
            for _ in range(10):
                self.assertIs(answer(drawings.are_limits, layout, limits_by(draw, layout)), True)
            self.assertIs(answer(drawings.are_limits, layout, ()), True)
            self.assertIs(answer(drawings.are_limits, layout, (((0,), 10 ** 60),)), True)
        for layout in (LONE, THIRDS, FIVE):
            for thing in WRONG + spoiled(SOME_LIMITS) + spoiled((((0, 1, 2), 5),)) + spoiled((((0,), 0),)):
                self.assertIs(answer(drawings.are_limits, layout, thing), are_limits_by_hand(layout, thing), thing)
        for thing in ((((0,), 1), ((0,), 1)), (((0,), 1), ((0,), 2)), (((1,), 0), ((0,), 0)), (((0,), True),),
                      (((0,), -1),), (((), 1),), (((3,), 1),), (([0],), 1), [((0,), 1)], ([(0,), 1],), (((0,), 1, 1),)):
            self.assertIs(answer(drawings.are_limits, THIRDS, thing), False, thing)


class Rows(unittest.TestCase):
    def test_pixels_and_row_of(self):
        for layout in SMALL:
            final = final_of(layout)
            for drawing in drawings_to(len(layout[1]), final)[:40]:
                for group in groups_of(len(layout[1])):
                    row = tuple(in_drawing(drawing, group, width) for width in range(final + 1))
                    self.assertEqual(answer(drawings.row_of, layout, drawing, group), row)
                    self.assertTrue(is_row_by_hand(layout, row))
                    for width in range(final + 1):
                        self.assertEqual(answer(drawings.pixels, layout, drawing, group, width), row[width])

    def test_rows_of_a_split_add_up(self):
        for layout in SMALL[:12]:
            for drawing in drawings_to(len(layout[1]), final_of(layout)):
                for group in groups_of(len(layout[1])):
                    row = drawings.row_of(layout, drawing, group)
                    for split in splits_of(group):
                        rows = [drawings.row_of(layout, drawing, own) for own in split]
                        self.assertEqual(tuple(map(sum, zip(*rows))), row)
                        offs = [drawings.off_of(layout, own, one) for own, one in zip(split, rows)]
                        self.assertLessEqual(drawings.off_of(layout, group, row), sum(offs))

    def test_no_place(self):
        for place in (-1, 4, -4, 10 ** 6):
            self.assertEqual(refusal(drawings.pixels, THIRDS, (0, 1, 2), (0,), place), no_place(place))
            self.assertEqual(refusal(drawings.off_at, THIRDS, (0,), (0, 1, 1, 1), place), no_place(place))
        self.assertEqual(refusal(drawings.pixels, POINT, (), (0,), 1), no_place(1))
        self.assertEqual(answer(drawings.pixels, POINT, (), (0,), 0), 0)


class Offs(unittest.TestCase):
    def test_by_hand(self):
        for layout in SMALL:
            parts, final = layout[0], final_of(layout)
            for group in groups_of(len(layout[1])):
                for row in rows_to(final):
                    offs = [abs(row[width] * parts - wide(layout, group, width)) for width in range(final + 1)]
                    for width in range(final + 1):
                        self.assertEqual(answer(drawings.off_at, layout, group, row, width), offs[width])
                    self.assertEqual(answer(drawings.off_of, layout, group, row), max(offs))
                    worst = next(width for width in range(final + 1) if offs[width] == max(offs))
                    self.assertEqual(answer(drawings.worst_at, layout, group, row), worst)
                    wides = [wide(layout, group, width) for width in range(final + 1)]
                    near = all(many in (own // parts, -(-own // parts)) for many, own in zip(row, wides))
                    self.assertIs(answer(drawings.is_snug, layout, group, row), near)

    def test_just_a_pixel_is_not_snug(self):
        self.assertIs(answer(drawings.is_snug, (1, ((0, 1), (0, 0))), (0,), (0, 0)), False)
        self.assertIs(answer(drawings.is_snug, (2, ((0, 1), (0, 1))), (0,), (0, 0)), True)
        self.assertIs(answer(drawings.is_snug, THIRDS, (0,), (0, 1, 2, 2)), False)

    def test_all_panes_and_the_others(self):
        for layout in SMALL:
            every = set(range(len(layout[1])))
            for drawing in drawings_to(len(every), final_of(layout)):
                whole = tuple(sorted(every))
                self.assertEqual(drawings.off_of(layout, whole, drawings.row_of(layout, drawing, whole)), 0)
                for group in groups_of(len(every)):
                    others = tuple(sorted(every - set(group)))
                    if not others:
                        continue
                    row, rest = drawings.row_of(layout, drawing, group), drawings.row_of(layout, drawing, others)
                    for width in range(final_of(layout) + 1):
                        self.assertEqual(drawings.off_at(layout, group, row, width),
                                         drawings.off_at(layout, others, rest, width))


class Keeps(unittest.TestCase):
    def test_by_hand(self):
        draw = random.Random(42)
        kept = 0
        for layout in SMALL + layouts_by(43, 20, 6, 7, 4) + [FIVE]:
            for drawing in some_drawings(draw, layout, 8):
                for _ in range(5):
                    limits = limits_by(draw, layout)
                    told = first_broken_by_hand(layout, drawing, limits)
                    self.assertEqual(answer(drawings.first_broken, layout, drawing, limits), told)
                    self.assertIs(answer(drawings.keeps, layout, drawing, limits), told is None)
                    kept += told is None and limits != ()
        self.assertGreater(kept, 50)

    def test_just_the_off(self):
        for layout in SMALL + [FIVE]:
            draw = random.Random(44)
            for drawing in some_drawings(draw, layout, 4):
                for group in groups_of(len(layout[1])):
                    row = [in_drawing(drawing, group, width) for width in range(final_of(layout) + 1)]
                    off = off_by(layout, group, row)
                    self.assertIs(answer(drawings.keeps, layout, drawing, ((group, off),)), True)
                    if off:
                        self.assertIs(answer(drawings.keeps, layout, drawing, ((group, off - 1),)), False)
                        self.assertEqual(answer(drawings.first_broken, layout, drawing, ((group, off - 1),)),
                                         (drawings.worst_at(layout, group, row), group))

    def test_less_is_kept_too(self):
        draw = random.Random(45)
        for layout in SMALL:
            for drawing in some_drawings(draw, layout, 4):
                limits = limits_by(draw, layout)
                if not drawings.keeps(layout, drawing, limits):
                    continue
                for at in range(len(limits)):
                    self.assertTrue(drawings.keeps(layout, drawing, limits[:at] + limits[at + 1:]))
                self.assertTrue(drawings.keeps(layout, drawing, tuple((group, off + 1) for group, off in limits)))

    def test_none_and_no_pixels(self):
        self.assertIs(answer(drawings.keeps, FIVE, (0,) * 6, ()), True)
        self.assertIsNone(answer(drawings.first_broken, FIVE, (0,) * 6, ()))
        self.assertIs(answer(drawings.keeps, POINT, (), (((0,), 0), ((1, 2), 0))), True)
        self.assertIs(answer(drawings.keeps, FIVE, (0,) * 6, (((0,), 10 ** 9),)), True)

    def test_least_of_several(self):
        limits = (((0,), 0), ((0, 1), 0), ((1,), 0), ((2,), 0))
        self.assertEqual(answer(drawings.first_broken, THIRDS, (0, 1, 2), limits), (1, (0,)))
        self.assertEqual(answer(drawings.first_broken, THIRDS, (0, 1, 2), limits[1:]), (1, (0, 1)))
        self.assertEqual(answer(drawings.first_broken, THIRDS, (2, 1, 0), (((0,), 1), ((1,), 1), ((2,), 2))), (2, (0,)))


if __name__ == "__main__":
    unittest.main()
