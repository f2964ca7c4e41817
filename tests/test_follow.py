"""Section 10: behind a told row."""

import itertools
import random
import unittest

from stillpanes import follow
from tests.reckon import (CAN_NOT, FIVE, LONE, POINT, THIRDS, WRONG, answer, final_of, groups_of, is_row_by_hand,
                          layout_by, layouts_by, near_rows, off_by, pair_at, presses_by_hand, refusal, rows_to,
                          spoiled, splits_of, tiny_layouts)

SMALL = layouts_by(70, 14, 3, 4, 5) + [THIRDS, LONE, POINT]
PAIR = ((0,), (1,))


def together(rows):
    return tuple(map(sum, zip(*rows)))


def sums_near(layout, split, off):
    """A dict from each ROW that some ROWS follow by off to all tuples of ROWS that do."""
    found = {}
    for rows in itertools.product(*[near_rows(layout, own, off) for own in split]):
        found.setdefault(together(rows), []).append(rows)
    return found


def are_followed_by_hand(layout, split, row, off, thing):
    if type(thing) is not tuple or len(thing) != len(split):
        return False
    if not all(is_row_by_hand(own, final_of(layout)) for own in thing):
        return False
    return together(thing) == tuple(row) and all(off_by(layout, own, it) <= off for own, it in zip(split, thing))


def least_by_hand(layout, split, row):
    """The least off by which the ROW is among the sums; without all ROWS where no PRESS at once tells more."""
    off = 0
    while presses_by_hand(layout, split, row, off):
        off += 1
    return off


def jumps_by_hand(layout, split, least):
    widths = range(final_of(layout) + 1)
    return tuple(off for off in range(1, least + 1)
                 if any(pair_at(layout, own, width, off) != pair_at(layout, own, width, off - 1)
                        for own in split for width in widths))


class ByAllRows(unittest.TestCase):
    def test_rows_or_a_press_by_all_rows(self):
        for layout in SMALL + list(tiny_layouts(2, 2, 3)):
            for group in groups_of(len(layout[1])):
                for split in splits_of(group):
                    for off in sorted({0, 1, layout[0] // 2, layout[0] - 1, layout[0], 2 * layout[0]}):
                        self.check(layout, split, off)

    def check(self, layout, split, off):
        sums = sums_near(layout, split, off)
        for row in rows_to(final_of(layout)):
            can = row in sums
            self.assertIs(answer(follow.follows, layout, split, row, off), can)
            presses = presses_by_hand(layout, split, row, off)
            if can:
                self.assertIn(answer(follow.followed, layout, split, row, off), sums[row])
                self.assertEqual(refusal(follow.press, layout, split, row, off), CAN_NOT)
            else:
                self.assertIn(answer(follow.press, layout, split, row, off), presses)
                self.assertEqual(refusal(follow.followed, layout, split, row, off), CAN_NOT)

    def test_least_follow_and_jumps(self):
        draw = random.Random(71)
        for layout in SMALL + layouts_by(72, 20, 4, 5, 7):
            for group in groups_of(len(layout[1])):
                for split in draw.sample(splits_of(group), min(3, len(splits_of(group)))):
                    for row in draw.sample(rows_to(final_of(layout)), min(3, 2 ** final_of(layout))):
                        least = answer(follow.least_follow, layout, split, row)
                        self.assertEqual(least, least_by_hand(layout, split, row))
                        jumps = answer(follow.jumps, layout, split, row)
                        self.assertEqual(jumps, jumps_by_hand(layout, split, least))
                        self.assertTrue(least == 0 or least in jumps)
                        most = max(off_by(layout, group, row), (layout[0] + 1) // 2)
                        self.assertLessEqual(2 * least, layout[0] + 2 * most)

    def test_by_each_greater_off(self):
        draw = random.Random(73)
        for _ in range(30):
            layout = layout_by(draw, draw.randint(2, 7), draw.randint(8, 20), draw.randint(1, 12))
            split = draw.choice(splits_of(tuple(range(draw.randint(2, min(5, len(layout[1])))))))
            row = [0]
            for _ in range(final_of(layout)):
                row.append(row[-1] + draw.randint(0, 1))
            least = answer(follow.least_follow, layout, split, tuple(row))
            for off in range(max(0, least - 4), least + 5):
                can = answer(follow.follows, layout, split, tuple(row), off)
                self.assertIs(can, off >= least)
                self.assertIs(bool(presses_by_hand(layout, split, row, off)), off < least)
                if can:
                    rows = answer(follow.followed, layout, split, tuple(row), off)
                    self.assertTrue(all(off_by(layout, own, it) <= off for own, it in zip(split, rows)))
                    self.assertEqual(together(rows), tuple(row))
                    self.assertIs(answer(follow.are_followed, layout, split, tuple(row), off, rows), True)
                else:
                    told = answer(follow.press, layout, split, tuple(row), off)
                    self.assertIn(told, presses_by_hand(layout, split, row, off))
                    self.assertIs(answer(follow.is_press, layout, split, tuple(row), off, told), True)

    def test_edges(self):
        for off in (0, 1, 10 ** 9):
            self.assertIs(answer(follow.follows, POINT, ((0,), (1, 2)), (0,), off), True)
            self.assertEqual(answer(follow.followed, POINT, ((0,), (1, 2)), (0,), off), ((0,), (0,)))
            self.assertEqual(answer(follow.followed, LONE, ((0,),), (0, 1, 2, 3), off), ((0, 1, 2, 3),))
        self.assertEqual(answer(follow.least_follow, POINT, ((0,), (1, 2)), (0,)), 0)
        self.assertEqual(answer(follow.jumps, POINT, ((0,), (1, 2)), (0,)), ())
        self.assertEqual(answer(follow.least_follow, LONE, ((0,),), (0, 0, 0, 0)), 21)
        self.assertEqual(answer(follow.jumps, LONE, ((0,),), (0, 0, 0, 0)), (7, 14, 21))
        self.assertEqual(answer(follow.least_follow, FIVE, ((0, 1, 2, 3, 4),), tuple(range(7))), 0)

    def test_at_the_bounds(self):
        parts = 10 ** 6
        layout = (parts, tuple(tuple(width * (parts // 12 + (pane < 4)) for width in range(41)) for pane in range(12)))
        self.assertEqual({sum(own) for own in list(zip(*layout[1]))[1:2]}, {parts})
        lone = tuple((pane,) for pane in range(12))
        whole = tuple(range(41))
        least = answer(follow.least_follow, layout, lone, whole)
        self.assertEqual(presses_by_hand(layout, lone, whole, least), ())
        self.assertNotEqual(presses_by_hand(layout, lone, whole, least - 1), ())
        jumps = answer(follow.jumps, layout, lone, whole)
        self.assertEqual(jumps[-1], least)
        rows = answer(follow.followed, layout, lone, whole, least)
        self.assertEqual(max(off_by(layout, own, it) for own, it in zip(lone, rows)), least)
        none = (0,) * 41
        self.assertEqual(answer(follow.least_follow, layout, lone, none), max(row[-1] for row in layout[1]))
        self.assertIs(answer(follow.follows, layout, lone, none, 10 ** 9), True)


class Things(unittest.TestCase):
    CASES = [(THIRDS, PAIR, (0, 0, 1, 2), 2), (THIRDS, PAIR, (0, 0, 1, 2), 1), (THIRDS, PAIR, (0, 0, 1, 2), 0),
             (FIVE, ((0, 1), (2,), (3, 4)), (0, 1, 2, 3, 4, 5, 6), 1), (POINT, ((0,), (2,)), (0,), 0),
             (LONE, ((0,),), (0, 1, 1, 2), 7), (LONE, ((0,),), (0, 1, 1, 2), 6), (THIRDS, ((0, 1),), (0, 1, 2, 2), 1)]

    def test_followed_things(self):
        for layout, split, row, off in self.CASES:
            things = WRONG + rows_to(final_of(layout))
            for rows in itertools.product(rows_to(final_of(layout))[:8], repeat=len(split)):
                things.extend([rows, list(rows)])
            if follow.follows(layout, split, row, off):
                things.extend(spoiled(follow.followed(layout, split, row, off)))
            for thing in things:
                told = answer(follow.are_followed, layout, split, row, off, thing)
                self.assertIs(told, are_followed_by_hand(layout, split, row, off, thing))

    def test_all_tuples_of_rows(self):
        for layout in (THIRDS, tuple(tiny_layouts(2, 3, 2))[5]):
            for off in range(layout[0] + 2):
                for row in rows_to(3)[::3]:
                    for rows in itertools.product(rows_to(3), repeat=2):
                        told = answer(follow.are_followed, layout, PAIR, row, off, rows)
                        self.assertIs(told, are_followed_by_hand(layout, PAIR, row, off, rows))

    def test_press_things(self):
        for layout, split, row, off in self.CASES:
            presses = presses_by_hand(layout, split, row, off)
            widths = range(-1, final_of(layout) + 2)
            things = WRONG + [(word, one, two) for word in ("bare", "more", "fewer", "less", "", None, 0)
                              for one in widths for two in widths]
            for own in presses:
                things.extend(spoiled(own))
                things.extend([list(own), own + (1,), (own[0], bool(own[1]), own[2]), (own[0], own[1], bool(own[2]))])
            for thing in things:
                is_one = thing in presses and type(thing) is tuple and set(map(type, thing[1:])) == {int}
                self.assertIs(answer(follow.is_press, layout, split, row, off, thing), is_one)

    def test_a_press_told_by_true(self):
        self.assertIs(answer(follow.is_press, THIRDS, PAIR, (0, 0, 1, 2), 1, ("more", True, 2)), False)
        self.assertIs(answer(follow.is_press, THIRDS, PAIR, (0, 0, 1, 2), 1, ("more", 1, 2)), True)
        self.assertIs(answer(follow.is_press, THIRDS, PAIR, (0, 0, 1, 2), 0, ("bare", False, 1)), False)


if __name__ == "__main__":
    unittest.main()
