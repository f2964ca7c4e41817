"""Section 4: layouts, and what is made of them."""

import itertools
import random
import unittest
from fractions import Fraction

from stillpanes import layouts
from tests.reckon import (CAN_NOT, FIVE, LONE, POINT, THIRDS, UNFIT, WRONG, answer, final_of, groups_of, layouts_by,
                          no_place, refusal, splits_of, spoiled, tiny_layouts, wide)

BIG = (10 ** 6, tuple(tuple(width * 10 ** 6 if pane == 5 else 0 for width in range(41)) for pane in range(12)))


def layout_by_hand(thing):
    """Whether thing is a LAYOUT, word by word."""
    if type(thing) is not tuple or len(thing) != 2 or type(thing[0]) is not int or thing[0] < 1:
        return False
    if type(thing[1]) is not tuple or len(thing[1]) == 0:
        return False
    for row in thing[1]:
        if type(row) is not tuple or len(row) == 0 or any(type(own) is not int for own in row):
            return False
        if row[0] != 0 or any(row[at] > row[at + 1] for at in range(len(row) - 1)):
            return False
    if len({len(row) for row in thing[1]}) != 1:
        return False
    return all(sum(row[width] for row in thing[1]) == width * thing[0] for width in range(len(thing[1][0])))


def group_by_hand(panes, thing):
    """Whether thing is a GROUP of so many panes."""
    return (type(thing) is tuple and len(thing) > 0 and all(type(own) is int and 0 <= own < panes for own in thing)
            and list(thing) == sorted(set(thing)))


def split_by_hand(panes, group, thing):
    """Whether thing is a SPLIT of group, word by word."""
    if type(thing) is not tuple or not all(group_by_hand(panes, own) for own in thing):
        return False
    if any(set(one) & set(two) for one, two in itertools.combinations(thing, 2)):
        return False
    return list(thing) == sorted(set(thing)) and set(group) == {pane for own in thing for pane in own}


def shares_of(layout):
    """All exact widths, in pixels."""
    return [[Fraction(wide_there, layout[0]) for wide_there in row] for row in layout[1]]


class IsLayout(unittest.TestCase):
    def test_right_ones(self):
        for layout in (THIRDS, FIVE, LONE, POINT, BIG, (1, ((0,),)), (10 ** 50, ((0, 10 ** 50),))):
            self.assertIs(answer(layouts.is_layout, layout), True)
        for layout in layouts_by(1, 200, 6, 8, 9):
            self.assertIs(answer(layouts.is_layout, layout), True)

    def test_wrong_things(self):
        for thing in WRONG:
            with self.subTest(thing=repr(thing)[:80]):
                self.assertIs(answer(layouts.is_layout, thing), layout_by_hand(thing))
                self.assertFalse(layout_by_hand(thing))

    def test_spoiled_ones(self):
        right = 0
        for layout in (THIRDS, FIVE, LONE, POINT, (2, ((0, 1), (0, 1))), (1, ((0, 1),))):
            for thing in spoiled(layout):
                self.assertIs(answer(layouts.is_layout, thing), layout_by_hand(thing), thing)
                right += layout_by_hand(thing)
        self.assertGreater(right, 0)

    def test_named_ones(self):
        wrong = [(2, ((0, 1), (0, 2))), (2, ((0, 3), (0, -1))), (1, ((0, 1, 0), (0, 0, 2))), (1, ((1, 2), (-1, -1))),
                 (0, ((0,),)), (-1, ((0, -1),)), (True, ((0, 1),)), (1, ((0, True),)), (1, ((False, 1),)), (1, ()),
                 (1, ((),)), (1, ((0, 1), (0,))), (1, ((0, 1), (0, 0, 0))), (1, (0, 1)), (1, (0, (0, 1))),
                 (1, ((0, 1), 0)), (1, ("0", (0, 1))), (1, ([0, 1],)), [1, ((0, 1),)], (1, [(0, 1)]),
                 (1, ((0, 1),), ()), (1,), (None, ((0, 1),)), (1, ((0, None),)), (1, ((0, "1"),))]
        for thing in wrong:
            self.assertIs(answer(layouts.is_layout, thing), False, thing)


class IsGroup(unittest.TestCase):
    def test_all_groups(self):
        for layout in (THIRDS, FIVE, LONE, POINT, BIG):
            for group in groups_of(len(layout[1])):
                self.assertIs(layouts.is_group(layout, group), True)
        self.assertIs(answer(layouts.is_group, FIVE, (0, 1, 2, 3, 4)), True)

    def test_wrong_things(self):
        for layout in (THIRDS, FIVE, LONE):
            panes = len(layout[1])
            things = WRONG + spoiled((0,)) + spoiled((0, 1)) + spoiled((0, 1, 2)) + [(panes,), (0, panes), (panes - 1,)]
            for thing in things:
                self.assertIs(answer(layouts.is_group, layout, thing), group_by_hand(panes, thing), thing)


class IsSplit(unittest.TestCase):
    def test_all_splits(self):
        for layout in (LONE, THIRDS, FIVE):
            for group in groups_of(len(layout[1])):
                for split in splits_of(group):
                    self.assertIs(layouts.is_split(layout, group, split), True)
        self.assertIs(answer(layouts.is_split, FIVE, (0, 1, 3), ((0, 3), (1,))), True)

    def test_of_another_group(self):
        for group in groups_of(3):
            for other in groups_of(3):
                for split in splits_of(other):
                    self.assertIs(answer(layouts.is_split, THIRDS, group, split), group == other)

    def test_all_tuples_of_groups(self):
        for many in range(4):
            for thing in itertools.product(groups_of(3), repeat=many):
                for group in groups_of(3):
                    self.assertIs(layouts.is_split(THIRDS, group, thing), thing in splits_of(group), thing)
                    self.assertIs(split_by_hand(3, group, thing), thing in splits_of(group), thing)

    def test_wrong_things(self):
        for group, split in (((0,), ((0,),)), ((0, 1), ((0,), (1,))), ((0, 1, 2), ((0, 2), (1,))), ((1, 2), ((1, 2),))):
            for thing in WRONG + spoiled(split):
                self.assertIs(answer(layouts.is_split, THIRDS, group, thing), split_by_hand(3, group, thing), thing)
        for thing in (((1,), (0,)), ((0, 1), (1,)), ((0,), (0,), (1,)), ((0,), (1,), ()), ((0,), [1]), ((0,), (True,))):
            self.assertIs(answer(layouts.is_split, THIRDS, (0, 1), thing), False)


class Widths(unittest.TestCase):
    def test_last(self):
        for layout, final in ((THIRDS, 3), (FIVE, 6), (LONE, 3), (POINT, 0), (BIG, 40)):
            self.assertEqual(answer(layouts.last, layout), final)

    def test_exact_and_grown(self):
        for layout in layouts_by(2, 40, 4, 5, 7) + [LONE, POINT]:
            final = final_of(layout)
            for group in groups_of(len(layout[1])):
                for low in range(final + 1):
                    self.assertEqual(answer(layouts.exact, layout, group, low), wide(layout, group, low))
                    for high in range(final + 1):
                        if high < low:
                            self.assertEqual(refusal(layouts.grown, layout, group, low, high), UNFIT)
                        else:
                            more = wide(layout, group, high) - wide(layout, group, low)
                            self.assertEqual(answer(layouts.grown, layout, group, low, high), more)

    def test_no_place(self):
        for place in (-1, 4, 5, -4, 10 ** 6, -10 ** 6):
            self.assertEqual(refusal(layouts.exact, THIRDS, (0,), place), no_place(place))
            self.assertEqual(refusal(layouts.cut_to, THIRDS, place), no_place(place))
            self.assertEqual(refusal(layouts.grown, THIRDS, (0,), place, 7), no_place(place))
            self.assertEqual(refusal(layouts.grown, THIRDS, (0,), 3, place), no_place(place))
            self.assertEqual(refusal(layouts.grown, THIRDS, (0,), 0, place), no_place(place))
        self.assertEqual(refusal(layouts.exact, POINT, (0,), 1), no_place(1))
        self.assertEqual(answer(layouts.exact, POINT, (0, 2), 0), 0)

    def test_whole_at(self):
        for layout in layouts_by(3, 60, 4, 6, 4) + [LONE, POINT, BIG]:
            for group in groups_of(len(layout[1]))[:40]:
                told = tuple(width for width in range(final_of(layout) + 1)
                             if Fraction(wide(layout, group, width), layout[0]).denominator == 1)
                self.assertEqual(answer(layouts.whole_at, layout, group), told)

    def test_groups_of_a_split_add_up(self):
        for layout in layouts_by(4, 20, 4, 4, 5):
            for group in groups_of(len(layout[1])):
                for split in splits_of(group):
                    for width in range(final_of(layout) + 1):
                        added = sum(layouts.exact(layout, own, width) for own in split)
                        self.assertEqual(added, layouts.exact(layout, group, width))


class OtherParts(unittest.TestCase):
    def test_lowest(self):
        for layout in layouts_by(5, 60, 4, 4, 12) + [LONE, POINT, BIG, THIRDS, FIVE]:
            low = answer(layouts.lowest, layout)
            self.assertTrue(layout_by_hand(low))
            self.assertEqual(shares_of(low), shares_of(layout))
            needed = [own.denominator for row in shares_of(layout) for own in row]
            fewest = next(parts for parts in range(1, 10 ** 6 + 1) if all(parts % own == 0 for own in needed))
            self.assertEqual(low[0], fewest)
        self.assertEqual(answer(layouts.lowest, POINT), (1, ((0,), (0,), (0,))))
        self.assertEqual(answer(layouts.lowest, LONE), (1, ((0, 1, 2, 3),)))

    def test_finer(self):
        for layout in layouts_by(6, 30, 4, 4, 12) + [LONE, POINT, BIG]:
            for many in (1, 2, 3, 7, 10 ** 6):
                fine = answer(layouts.finer, layout, many)
                self.assertTrue(layout_by_hand(fine))
                self.assertEqual(fine[0], layout[0] * many)
                self.assertEqual(shares_of(fine), shares_of(layout))
                self.assertEqual(answer(layouts.lowest, fine), layouts.lowest(layout))
                for pane in range(len(layout[1])):
                    whole = layouts.whole_at(layout, (pane,))
                    self.assertEqual(layouts.whole_at(fine, (pane,)), whole)
                    self.assertEqual(layouts.whole_at(layouts.lowest(layout), (pane,)), whole)
            for many in (0, -1, -10 ** 6):
                self.assertEqual(refusal(layouts.finer, layout, many), UNFIT)


class OtherWidths(unittest.TestCase):
    def test_cut_to(self):
        for layout in layouts_by(7, 40, 4, 6, 5) + [LONE, POINT]:
            for width in range(final_of(layout) + 1):
                cut = answer(layouts.cut_to, layout, width)
                self.assertTrue(layout_by_hand(cut))
                self.assertEqual((cut[0], final_of(cut)), (layout[0], width))
                for pane, row in enumerate(cut[1]):
                    self.assertEqual(row, layout[1][pane][:width + 1])

    def test_merged(self):
        for layout in layouts_by(8, 30, 4, 5, 5) + [LONE, POINT, FIVE]:
            for split in splits_of(tuple(range(len(layout[1])))):
                whole = answer(layouts.merged, layout, split)
                self.assertTrue(layout_by_hand(whole))
                self.assertEqual((whole[0], len(whole[1])), (layout[0], len(split)))
                for group, row in zip(split, whole[1]):
                    self.assertEqual(row, tuple(wide(layout, group, own) for own in range(final_of(layout) + 1)))

    def test_led_on(self):
        for layout in layouts_by(9, 200, 6, 5, 9) + [LONE, POINT, FIVE, THIRDS, BIG]:
            longer = answer(layouts.led_on, layout)
            self.assertTrue(layout_by_hand(longer))
            self.assertEqual(longer, led_on_by_hand(layout))
            final, parts = final_of(layout), layout[0]
            self.assertEqual(layouts.cut_to(longer, final), layout)
            for row, old in zip(longer[1], layout[1]):
                self.assertEqual(row[-1], -(-old[-1] // parts) * parts)
        for layout in (LONE, POINT, THIRDS, BIG):
            self.assertEqual(answer(layouts.led_on, layout), layout)

    def test_joined_behind(self):
        draw = random.Random(10)
        made = layouts_by(11, 60, 3, 4, 3) + [POINT, THIRDS, LONE]
        joined = 0
        for _ in range(600):
            layout, other = draw.choice(made), draw.choice(made)
            if layout[0] != other[0] or len(layout[1]) != len(other[1]):
                self.assertEqual(refusal(layouts.joined_behind, layout, other), CAN_NOT)
                continue
            joined += 1
            longer = answer(layouts.joined_behind, layout, other)
            self.assertTrue(layout_by_hand(longer))
            final = final_of(layout)
            self.assertEqual(final_of(longer), final + final_of(other))
            self.assertEqual(layouts.cut_to(longer, final), layout)
            for pane in range(len(layout[1])):
                for width in range(final_of(other) + 1):
                    more = wide(longer, (pane,), final + width) - wide(longer, (pane,), final)
                    self.assertEqual(more, wide(other, (pane,), width))
        self.assertGreater(joined, 50)

    def test_joined_behind_just_one_unlike(self):
        self.assertEqual(refusal(layouts.joined_behind, (2, ((0, 2),)), (4, ((0, 4),))), CAN_NOT)
        self.assertEqual(refusal(layouts.joined_behind, (2, ((0, 2),)), (2, ((0, 2), (0, 0)))), CAN_NOT)

    def test_all_tiny_ones(self):
        for layout in tiny_layouts(3, 2, 3):
            self.assertIs(layouts.is_layout(layout), True)
            self.assertEqual(layouts.led_on(layout), led_on_by_hand(layout))
            self.assertEqual(shares_of(layouts.lowest(layout)), shares_of(layout))


def led_on_by_hand(layout):
    """led_on, part by part."""
    parts, rows = layout
    rows = [list(row) for row in rows]
    while any(row[-1] % parts for row in rows):
        ends = [row[-1] for row in rows]
        for _ in range(parts):
            pane = next(at for at, end in enumerate(ends) if end % parts)
            ends[pane] += 1
        for row, end in zip(rows, ends):
            row.append(end)
    return parts, tuple(map(tuple, rows))


if __name__ == "__main__":
    unittest.main()
