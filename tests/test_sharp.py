"""Section 11: half a pixel, and no less."""

import random
import unittest

from stillpanes import sharp
from tests.reckon import (CAN_NOT, FIVE, LONE, POINT, THIRDS, TOO_MUCH, UNFIT, WRONG, answer, final_of, groups_of,
                          is_row_by_hand, layout_by, layouts_by, near_rows, off_by, presses_by_hand, refusal, rows_to,
                          splits_of, spoiled, tiny_layouts)

SMALL = layouts_by(80, 16, 3, 4, 5) + [THIRDS, LONE, POINT, FIVE]
PAIR = ((0,), (1,))


def group_of(split):
    return tuple(sorted(pane for own in split for pane in own))


def least_by_hand(layout, split, row):
    """The least off by which there is no PRESS."""
    off = 0
    while presses_by_hand(layout, split, row, off):
        off += 1
    return off


def some_splits(draw, layout, many):
    splits = [own for group in groups_of(len(layout[1])) for own in splits_of(group)]
    return draw.sample(splits, min(many, len(splits)))


def offs_for(layout):
    return sorted({0, 1, layout[0] // 2, (layout[0] + 1) // 2, layout[0] - 1, layout[0], 2 * layout[0] + 1})


class Rows(unittest.TestCase):
    def test_half_kept(self):
        draw = random.Random(81)
        for layout in SMALL:
            for split in some_splits(draw, layout, 5):
                for row in draw.sample(rows_to(final_of(layout)), min(4, 2 ** final_of(layout))):
                    told = (off_by(layout, group_of(split), row), least_by_hand(layout, split, row))
                    self.assertEqual(answer(sharp.half_kept, layout, split, row), told)

    def test_reach_by_all_rows(self):
        for layout in SMALL:
            for group in groups_of(len(layout[1])):
                for off in offs_for(layout):
                    rows = near_rows(layout, group, off)
                    if not rows:
                        self.assertEqual(refusal(sharp.reach, layout, group, off), CAN_NOT)
                        continue
                    told = tuple((min(numbers), max(numbers)) for numbers in zip(*rows))
                    self.assertEqual(answer(sharp.reach, layout, group, off), told)

    def test_whatever_row_by_all_rows(self):
        draw = random.Random(82)
        refused = 0
        for layout in SMALL + list(tiny_layouts(3, 2, 3))[::7]:
            for split in some_splits(draw, layout, 4):
                for off in offs_for(layout):
                    rows = near_rows(layout, group_of(split), off)
                    if rows:
                        self.check(layout, split, off, rows)
                        continue
                    refused += 1
                    self.assertEqual(refusal(sharp.whatever_row, layout, split, off), CAN_NOT)
                    self.assertEqual(refusal(sharp.hardest_row, layout, split, off), CAN_NOT)
                    for thing in rows_to(final_of(layout)) + WRONG[:20]:
                        self.assertIs(answer(sharp.is_hardest, layout, split, off, thing), False)
        self.assertGreater(refused, 20)

    def check(self, layout, split, off, rows):
        leasts = {row: least_by_hand(layout, split, row) for row in rows}
        worst = max(leasts.values())
        self.assertEqual(answer(sharp.whatever_row, layout, split, off), worst)
        self.assertEqual(leasts.get(answer(sharp.hardest_row, layout, split, off)), worst)
        for row in rows_to(final_of(layout)):
            is_one = leasts.get(row) == worst
            self.assertIs(answer(sharp.is_hardest, layout, split, off, row), is_one)
        parts = layout[0]
        self.assertLessEqual(2 * worst, parts + 2 * (off if 2 * off >= parts else (parts + 1) // 2))

    def test_hardest_things(self):
        for layout, split, off in ((THIRDS, PAIR, 2), (FIVE, PAIR, 1), (FIVE, PAIR, 2), (POINT, PAIR, 0),
                                   (LONE, ((0,),), 3), (THIRDS, PAIR, 0)):
            worst = max([least_by_hand(layout, split, row) for row in near_rows(layout, group_of(split), off)],
                        default=None)
            things = list(WRONG)
            for row in near_rows(layout, group_of(split), off)[:4]:
                things.extend(spoiled(row))
                things.append(list(row))
                things.append(tuple(map(bool, row)))
            for thing in things:
                is_one = (is_row_by_hand(thing, final_of(layout)) and off_by(layout, group_of(split), thing) <= off
                          and least_by_hand(layout, split, thing) == worst)
                self.assertIs(answer(sharp.is_hardest, layout, split, off, thing), is_one)

    def test_wide_layouts(self):
        draw = random.Random(83)
        for _ in range(12):
            layout = layout_by(draw, draw.randint(2, 6), draw.randint(10, 20), draw.randint(2, 9))
            split = tuple((pane,) for pane in range(draw.randint(1, len(layout[1]))))
            off = draw.randint(layout[0] // 2, 2 * layout[0])
            worst = answer(sharp.whatever_row, layout, split, off)
            row = answer(sharp.hardest_row, layout, split, off)
            self.assertLessEqual(off_by(layout, group_of(split), row), off)
            self.assertTrue(worst == 0 or presses_by_hand(layout, split, row, worst - 1))
            self.assertIs(answer(sharp.is_hardest, layout, split, off, row), True)
            for other in self.rows_between(draw, answer(sharp.reach, layout, group_of(split), off)):
                self.assertEqual(presses_by_hand(layout, split, other, worst), ())

    def rows_between(self, draw, pairs):
        """Some ROWS within pairs."""
        for _ in range(12):
            row = [0]
            chance = draw.random()
            for least, most in pairs[1:]:
                row.append(min(most, max(least, row[-1] + (draw.random() < chance))))
            yield tuple(row)

    def test_far_off(self):
        self.assertEqual(answer(sharp.reach, THIRDS, (0,), 10 ** 9), ((0, 0), (0, 1), (0, 2), (0, 3)))
        self.assertEqual(answer(sharp.whatever_row, THIRDS, PAIR, 10 ** 9), 3)
        self.assertEqual(answer(sharp.whatever_row, POINT, PAIR, 10 ** 9), 0)
        self.assertEqual(answer(sharp.hardest_row, POINT, PAIR, 10 ** 9), (0,))


class Sharp(unittest.TestCase):
    def test_layout_row_and_press(self):
        seen = 0
        for parts in (1, 2, 3, 4, 5, 8, 11):
            for off in range(14 * parts):
                for more in (0, 1, 2, 5, 11, 30, 36):
                    if 2 * off < parts:
                        self.assertEqual(refusal(sharp.sharp, parts, off, more), UNFIT)
                    elif 3 * off + (more + 3) * parts > 40 * parts:
                        self.assertEqual(refusal(sharp.sharp, parts, off, more), TOO_MUCH)
                    elif off % 3 == 0 or more in (0, 36) or off < 2 * parts:
                        self.check(parts, off, more)
                        seen += 1
        self.assertGreater(seen, 300)

    def check(self, parts, off, more):
        layout, row = answer(sharp.sharp, parts, off, more)
        self.assertEqual((layout[0], len(layout[1])), (parts, 3))
        self.assertEqual({len(own) for own in layout[1]}, {len(row)})
        self.assertLessEqual(len(row), 41)
        for width, wides in enumerate(zip(*layout[1])):
            self.assertEqual(sum(wides), width * parts)
        for own in layout[1]:
            self.assertEqual(own[0], 0)
            self.assertEqual(sorted(own), list(own))
        self.assertEqual(row[0], 0)
        self.assertLessEqual({high - low for low, high in zip(row, row[1:])}, {0, 1})
        self.assertEqual(off_by(layout, (0, 1), row), off)
        least = off + parts // 2
        self.assertEqual(presses_by_hand(layout, PAIR, row, least), ())
        presses = presses_by_hand(layout, PAIR, row, least - 1)
        self.assertIn(more, [row[own[2]] - row[own[1]] for own in presses if own[0] == "more"])
        self.assertEqual(answer(sharp.half_kept, layout, PAIR, row), (off, least))

    def test_bounds_of_what_is_told(self):
        self.assertEqual(refusal(sharp.sharp, 3, 1, 10 ** 6), UNFIT)
        self.assertEqual(refusal(sharp.sharp, 10 ** 6, 499999, 0), UNFIT)
        self.assertEqual(refusal(sharp.sharp, 2, 0, 99), UNFIT)
        self.assertEqual(refusal(sharp.sharp, 1, 10 ** 6, 10 ** 6), TOO_MUCH)
        self.assertEqual(refusal(sharp.sharp, 3, 37, 1), TOO_MUCH)
        self.check(3, 36, 1)
        self.check(1, 12, 1)
        self.check(10 ** 6, 12 * 10 ** 6, 1)
        self.check(10 ** 6, 500000, 35)
        self.check(999999, 500000, 35)
        self.assertEqual(refusal(sharp.sharp, 1, 12, 2), TOO_MUCH)
        self.assertEqual(refusal(sharp.sharp, 10 ** 6, 12333334, 0), TOO_MUCH)
        self.check(10 ** 6, 12333333, 0)


if __name__ == "__main__":
    unittest.main()
