"""Section 9: bounds, and pixels that must come; and what section 3 guarantees of presses."""

import itertools
import random
import unittest

from stillpanes import bounds
from stillpanes.drawings import off_of
from tests.reckon import (CAN_NOT, FIVE, LONE, POINT, THIRDS, UNFIT, answer, final_of, groups_of, layouts_by,
                          near_numbers, near_rows, no_place, off_by, pair_at, presses_by_hand, refusal, rows_to,
                          splits_of, tiny_layouts)

SMALL = layouts_by(50, 25, 3, 4, 6) + [THIRDS, LONE, POINT]
PAIR = ((0,), (1,))


def offs_for(layout):
    """Offs from 0 to far above the LAST, all small ones."""
    parts, final = layout[0], final_of(layout)
    return sorted({*range(2 * parts + 1), parts * final, parts * final + 1, 3 * parts * (final + 1)})


def has_bare(layout, group, off):
    return any(not near_numbers(layout, group, width, off) for width in range(final_of(layout) + 1))


def span_by_hand(layout, group, number, off):
    first = final = None
    for width in reversed(range(final_of(layout) + 1)):
        pair = pair_at(layout, group, width, off)
        if pair is not None and pair[1] >= number:
            first = width
        if pair is not None and pair[0] >= number:
            final = width
    return first, final


class Bounds(unittest.TestCase):
    def test_by_hand(self):
        for layout in SMALL:
            for group in groups_of(len(layout[1])):
                for off in offs_for(layout):
                    bares = []
                    for width in range(final_of(layout) + 1):
                        pair = pair_at(layout, group, width, off)
                        self.assertEqual(answer(bounds.bounds, layout, group, width, off), pair)
                        if pair is None:
                            bares.append(width)
                    self.assertEqual(answer(bounds.bare, layout, group, off), tuple(bares))

    def test_far_above_the_last(self):
        self.assertEqual(answer(bounds.bounds, THIRDS, (0,), 1, 10 ** 9), (0, (10 ** 9 + 1) // 3))
        self.assertEqual(answer(bounds.bounds, THIRDS, (0,), 0, 10 ** 9), (0, 0))
        self.assertEqual(answer(bounds.bounds, POINT, (0, 1), 0, 0), (0, 0))
        self.assertEqual(answer(bounds.bounds, LONE, (0,), 2, 0), (2, 2))
        self.assertEqual(answer(bounds.bounds, LONE, (0,), 2, 6), (2, 2))
        self.assertEqual(answer(bounds.bounds, LONE, (0,), 2, 7), (1, 3))

    def test_no_place(self):
        for place in (-1, 4, -4, 10 ** 6):
            self.assertEqual(refusal(bounds.bounds, THIRDS, (0,), place, 0), no_place(place))
        self.assertEqual(refusal(bounds.bounds, POINT, (0,), 1, 0), no_place(1))

    def test_none_is_none_from_half_a_pixel_on(self):
        for layout in layouts_by(51, 40, 4, 6, 9) + [FIVE, THIRDS, LONE, POINT]:
            parts = layout[0]
            for group in groups_of(len(layout[1])):
                for off in range(2 * parts + 1):
                    found = [bounds.bounds(layout, group, width, off) for width in range(final_of(layout) + 1)]
                    if 2 * off + 1 >= parts:
                        self.assertNotIn(None, found)
                    if None not in found:
                        for low, high in zip(found, found[1:]):
                            self.assertLessEqual(low[0], high[0])
                            self.assertLessEqual(low[1], high[1])

    def test_some_are_none_below_half_a_pixel(self):
        for parts in range(2, 9):
            for off in range(parts):
                found = [bounds.bare((parts, ((0, own), (0, parts - own))), (0,), off) for own in range(parts + 1)]
                self.assertIs(any(found), 2 * off + 1 < parts)


class Spans(unittest.TestCase):
    def test_by_hand(self):
        for layout in SMALL:
            for group in groups_of(len(layout[1])):
                for off in offs_for(layout):
                    for number in (*range(1, final_of(layout) + 4), 10 ** 6):
                        self.assertEqual(answer(bounds.span, layout, group, number, off),
                                         span_by_hand(layout, group, number, off))

    def test_bare_widths_count_for_neither(self):
        self.assertEqual(answer(bounds.span, THIRDS, (0,), 1, 0), (3, 3))
        self.assertEqual(answer(bounds.span, THIRDS, (0, 1), 2, 0), (3, 3))
        self.assertEqual(answer(bounds.span, POINT, (0,), 1, 9), (None, None))
        self.assertEqual(answer(bounds.span, THIRDS, (0,), 2, 2), (None, None))
        self.assertEqual(answer(bounds.span, THIRDS, (0,), 2, 3), (3, None))

    def test_comes(self):
        for final in range(6):
            for row in rows_to(final):
                for number in (*range(1, final + 3), 10 ** 6):
                    told = next((width for width in range(final + 1) if row[width] >= number), None)
                    self.assertEqual(answer(bounds.comes, row, number), told)

    def test_in_spans_exactly_if_near(self):
        for layout in SMALL:
            for group in groups_of(len(layout[1])):
                for off in offs_for(layout)[::2]:
                    for row in rows_to(final_of(layout)):
                        near = off_by(layout, group, row) <= off
                        self.assertEqual(near, off_of(layout, group, row) <= off)
                        self.assertIs(answer(bounds.in_spans, layout, group, row, off), near)
                        by_words = not has_bare(layout, group, off) and self.by_words(layout, group, row, off)
                        self.assertIs(by_words, near)

    def by_words(self, layout, group, row, off):
        """Whether each pixel comes within its SPAN, and all those with a last come."""
        for number in range(1, final_of(layout) + 2):
            first, final = span_by_hand(layout, group, number, off)
            at = next((width for width, many in enumerate(row) if many >= number), None)
            if at is None and final is not None:
                return False
            if at is not None and (first is None or at < first or (final is not None and at > final)):
                return False
        return True


class Rows(unittest.TestCase):
    def test_all_rows(self):
        for layout in SMALL + [FIVE]:
            for group in groups_of(len(layout[1])):
                for off in offs_for(layout)[::1 if layout is FIVE else 2]:
                    rows = near_rows(layout, group, off)
                    self.assertEqual(answer(bounds.how_many_rows, layout, group, off), len(rows))
                    self.assertIs(bool(rows), not has_bare(layout, group, off))
                    if not rows:
                        self.assertEqual(refusal(bounds.least_row, layout, group, off), CAN_NOT)
                        self.assertEqual(refusal(bounds.most_row, layout, group, off), CAN_NOT)
                        continue
                    least, most = tuple(map(min, zip(*rows))), tuple(map(max, zip(*rows)))
                    self.assertEqual(answer(bounds.least_row, layout, group, off), least)
                    self.assertEqual(answer(bounds.most_row, layout, group, off), most)
                    between = [row for row in rows_to(final_of(layout))
                               if all(low <= own <= high for low, own, high in zip(least, row, most))]
                    self.assertEqual(rows, between)

    def test_at_the_bounds(self):
        layout = (10 ** 6, (tuple(width * 5 * 10 ** 5 for width in range(41)),) * 2)
        self.assertEqual(answer(bounds.how_many_rows, layout, (0,), 10 ** 9), 2 ** 40)
        self.assertEqual(answer(bounds.how_many_rows, layout, (0,), 5 * 10 ** 5), 2 ** 20)
        self.assertEqual(answer(bounds.how_many_rows, layout, (0,), 5 * 10 ** 5 - 1), 0)
        self.assertEqual(answer(bounds.most_row, layout, (0, 1), 10 ** 9), tuple(range(41)))
        self.assertEqual(answer(bounds.least_row, layout, (0, 1), 10 ** 9), (0,) * 41)

    def test_last_0(self):
        self.assertEqual(answer(bounds.how_many_rows, POINT, (0,), 0), 1)
        self.assertEqual(answer(bounds.least_row, POINT, (0,), 0), (0,))
        self.assertEqual(answer(bounds.most_row, POINT, (0,), 10 ** 9), (0,))
        self.assertIs(answer(bounds.in_spans, POINT, (0,), (0,), 0), True)
        self.assertEqual(answer(bounds.crowded, POINT, ((0,), (2,)), (0,), 0), ())


class MustAndCan(unittest.TestCase):
    def test_by_hand(self):
        for layout in SMALL:
            for group in groups_of(len(layout[1])):
                for split in splits_of(group):
                    for off in offs_for(layout)[::2]:
                        self.check_widths(layout, split, off)

    def check_widths(self, layout, split, off):
        final = final_of(layout)
        row = tuple(width // 2 for width in range(final + 1))
        for low in range(final + 1):
            for high in range(final + 1):
                ends = [(pair_at(layout, own, low, off), pair_at(layout, own, high, off)) for own in split]
                if high <= low or any(None in own for own in ends):
                    self.assertEqual(refusal(bounds.must, layout, split, low, high, off), UNFIT)
                    self.assertEqual(refusal(bounds.can, layout, split, low, high, off), UNFIT)
                    self.assertEqual(refusal(bounds.slack, layout, split, row, low, high, off), UNFIT)
                    continue
                least = sum(max(0, there[0] - here[1]) for here, there in ends)
                most = sum(max(0, there[1] - here[0]) for here, there in ends)
                grows = row[high] - row[low]
                self.assertEqual(answer(bounds.must, layout, split, low, high, off), least)
                self.assertEqual(answer(bounds.can, layout, split, low, high, off), most)
                both = (grows - least, most - grows)
                self.assertEqual(answer(bounds.slack, layout, split, row, low, high, off), both)

    def test_bare_elsewhere_does_not_matter(self):
        self.assertEqual(answer(bounds.must, THIRDS, PAIR, 0, 3, 0), 2)
        self.assertEqual(refusal(bounds.must, THIRDS, PAIR, 0, 2, 0), UNFIT)
        self.assertEqual(refusal(bounds.can, THIRDS, PAIR, 1, 3, 0), UNFIT)

    def test_no_place_first(self):
        for place in (-1, 4, -4, 10 ** 6):
            for other in (0, 3, 99):
                self.assertEqual(refusal(bounds.must, THIRDS, PAIR, place, other, 0), no_place(place))
                self.assertEqual(refusal(bounds.can, THIRDS, PAIR, place, other, 0), no_place(place))
                self.assertEqual(refusal(bounds.slack, THIRDS, PAIR, (0, 0, 1, 1), place, other, 0), no_place(place))
            self.assertEqual(refusal(bounds.must, THIRDS, PAIR, 3, place, 0), no_place(place))
            self.assertEqual(refusal(bounds.can, THIRDS, PAIR, 3, place, 0), no_place(place))
            self.assertEqual(refusal(bounds.slack, THIRDS, PAIR, (0, 0, 1, 1), 3, place, 0), no_place(place))

    def test_rows_grow_between_must_and_can(self):
        for layout in SMALL[:15] + [THIRDS]:
            final = final_of(layout)
            for split in splits_of(tuple(range(len(layout[1])))):
                for off in range(layout[0] // 2, 2 * layout[0]):
                    near = [near_rows(layout, own, off) for own in split]
                    sums = [tuple(map(sum, zip(*own))) for own in itertools.product(*near)]
                    for low, high in itertools.combinations(range(final + 1), 2):
                        grows = [own[high] - own[low] for own in sums]
                        if grows:
                            self.assertLessEqual(bounds.must(layout, split, low, high, off), min(grows))
                            self.assertGreaterEqual(bounds.can(layout, split, low, high, off), max(grows))


class Crowded(unittest.TestCase):
    def test_by_hand(self):
        draw = random.Random(52)
        pressed = set()
        for layout in SMALL + [FIVE]:
            groups = groups_of(len(layout[1]))
            for group in groups if layout is not FIVE else draw.sample(groups, 6):
                for split in splits_of(group)[:6]:
                    for off in (0, 1, layout[0] // 2, layout[0] - 1, layout[0], 3 * layout[0]):
                        for row in draw.choices(rows_to(final_of(layout)), k=4):
                            told = presses_by_hand(layout, split, row, off)
                            self.assertEqual(answer(bounds.crowded, layout, split, row, off), told)
                            pressed |= {own[0] for own in told}
        self.assertEqual(pressed, {"bare", "more", "fewer"})

    def test_rows_or_a_press_never_both(self):
        made = list(tiny_layouts(2, 3, 2)) + list(tiny_layouts(3, 2, 2)) + layouts_by(53, 12, 3, 4, 4)
        for layout in made:
            for group in groups_of(len(layout[1])):
                for split in splits_of(group):
                    for off in range(layout[0] + 2):
                        self.check_press(layout, split, off)

    def check_press(self, layout, split, off):
        near = [near_rows(layout, own, off) for own in split]
        sums = {tuple(map(sum, zip(*own))) for own in itertools.product(*near)}
        for row in rows_to(final_of(layout)):
            self.assertIs(bool(bounds.crowded(layout, split, row, off)), row not in sums)

    def test_half_a_pixel_more_is_enough(self):
        for layout in list(tiny_layouts(3, 3, 2)) + layouts_by(54, 30, 4, 5, 5) + [FIVE, THIRDS]:
            parts = layout[0]
            for group in groups_of(len(layout[1])):
                lone = tuple((pane,) for pane in group)
                for row in rows_to(final_of(layout)):
                    off = max(off_by(layout, group, row), (parts + 1) // 2)
                    self.assertEqual(bounds.crowded(layout, lone, row, (2 * off + parts) // 2), ())

    def test_bare_alone_where_some_are_none(self):
        told = answer(bounds.crowded, THIRDS, ((0,), (1,), (2,)), (0, 0, 0, 0), 0)
        self.assertEqual(told, tuple(("bare", number, width) for number in range(3) for width in (1, 2)))


if __name__ == "__main__":
    unittest.main()
