"""Section 14: one parting."""

import itertools
import random
import unittest

from stillpanes import partings
from stillpanes.bounds import how_many_rows
from tests.reckon import (CAN_NOT, FIVE, LONE, POINT, THIRDS, TOO_MUCH, UNFIT, WRONG, answer, drawings_to, final_of,
                          groups_of, in_drawing, layout_by, layouts_by, no_place, off_by, pair_at, refusal, rows_to,
                          spoiled, tiny_layouts, wide)

# two of four panes can be off by a pixel together, each of them by less
QUARTERS = (4, ((0, 1, 2, 3, 4),) * 4)
SMALL = layouts_by(120, 24, 4, 4, 6) + [THIRDS, LONE, POINT, QUARTERS] + list(tiny_layouts(3, 2, 2))
TWO = (0, 1)
WISHED = ((0, 1, 1, 1), (1, 3, 2, 2))


def parts_of(layout):
    """All GROUPS of a LAYOUT but that of all panes."""
    return [own for own in groups_of(len(layout[1])) if len(own) < len(layout[1])]


def row_by_hand(layout, drawing, group):
    return tuple(in_drawing(drawing, group, width) for width in range(final_of(layout) + 1))


def fitting_by_drawings(layout, group):
    """All ROWS of the group in DRAWINGS snug for it and for all lone panes, ascending."""
    found = set()
    for drawing in drawings_to(len(layout[1]), final_of(layout)):
        row = row_by_hand(layout, drawing, group)
        if off_by(layout, group, row) < layout[0] and is_snug_for_panes(layout, drawing):
            found.add(row)
    return sorted(found)


def is_snug_for_panes(layout, drawing):
    return all(off_by(layout, (pane,), row_by_hand(layout, drawing, (pane,))) < layout[0]
               for pane in range(len(layout[1])))


def growth_by_hand(layout, group, low, high):
    """GROWTH, word by word."""
    def ends(panes):
        least = most = 0
        for pane in panes:
            here, there = [pair_at(layout, (pane,), width, layout[0] - 1) for width in (low, high)]
            least += max(0, there[0] - here[1])
            most += max(0, there[1] - here[0])
        return least, most
    inner = ends(group)
    outer = ends([pane for pane in range(len(layout[1])) if pane not in group])
    found = [inner, (high - low - outer[1], high - low - outer[0])]
    if low == 0:
        found.append(pair_at(layout, group, high, layout[0] - 1))
    return max(least for least, _ in found), min(most for _, most in found)


def keeps_wishes(row, wishes):
    return all(least <= row[high] - row[low] <= most for low, high, least, most in wishes)


def wishes_by(draw, final, many):
    pairs = list(itertools.combinations(range(final + 1), 2))
    found = []
    for low, high in draw.sample(pairs, min(many, len(pairs))):
        least = draw.randint(-1, high - low)
        found.append((low, high, least, least + draw.choice((0, 0, 1, 3))))
    return tuple(sorted(found))


def is_ring_by_hand(layout, group, wishes, thing):
    final = final_of(layout)
    if type(thing) is not tuple or len(thing) < 3 or not all(type(own) is int and 0 <= own <= final for own in thing):
        return False
    if thing[0] != thing[-1] or any(thing.count(own) != 1 + (own == thing[0]) for own in thing):
        return False
    total = 0
    for start, end in zip(thing, thing[1:]):
        told = [growth_by_hand(layout, group, min(start, end), max(start, end))]
        told += [own[2:] for own in wishes if own[:2] == (min(start, end), max(start, end))]
        total += min(most for _, most in told) if start < end else -max(least for least, _ in told)
    return total < 0


def rings_to(final):
    """All tuples of widths that could be RINGS."""
    for many in range(2, final + 2):
        for own in itertools.permutations(range(final + 1), many):
            yield own + own[:1]


class Fits(unittest.TestCase):
    def test_by_theta(self):
        for layout in SMALL[:26]:
            for group in parts_of(layout):
                fitting = fitting_by_drawings(layout, group)
                for theta in range(layout[0]):
                    told = tuple((wide(layout, group, width) + theta) // layout[0]
                                 for width in range(final_of(layout) + 1))
                    self.assertEqual(answer(partings.by_theta, layout, group, theta), told)
                    self.assertIn(told, fitting)

    def test_growth(self):
        draw = random.Random(121)
        for layout in SMALL + [layout_by(draw, 6, 9, 7) for _ in range(4)]:
            for group in draw.sample(parts_of(layout), min(6, len(parts_of(layout)))):
                for low, high in itertools.product(range(final_of(layout) + 1), repeat=2):
                    if low >= high:
                        self.assertEqual(refusal(partings.growth, layout, group, low, high), UNFIT)
                        continue
                    told = growth_by_hand(layout, group, low, high)
                    self.assertEqual(answer(partings.growth, layout, group, low, high), told)

    def test_rows_by_all_drawings(self):
        for layout in SMALL:
            for group in parts_of(layout):
                fitting = fitting_by_drawings(layout, group)
                self.assertEqual(answer(partings.all_rows, layout, group), fitting)
                for row in rows_to(final_of(layout)):
                    self.check_row(layout, group, row, row in fitting)

    def check_row(self, layout, group, row, fits):
        self.assertIs(answer(partings.fits_row, layout, group, row), fits)
        wrong = []
        for low, high in itertools.combinations(range(len(row)), 2):
            least, most = growth_by_hand(layout, group, low, high)
            if not least <= row[high] - row[low] <= most:
                wrong.append((low, high))
        self.assertIs(not wrong, fits)
        if fits:
            drawing = answer(partings.drawing_by, layout, group, row)
            self.assertEqual(row_by_hand(layout, drawing, group), row)
            self.assertEqual(len(drawing), final_of(layout))
            self.assertTrue(is_snug_for_panes(layout, drawing))
            self.assertEqual(refusal(partings.why_unfit, layout, group, row), CAN_NOT)
        else:
            self.assertIn(answer(partings.why_unfit, layout, group, row), wrong)
            self.assertEqual(refusal(partings.drawing_by, layout, group, row), CAN_NOT)
        for own in itertools.product(range(-1, len(row) + 1), repeat=2):
            self.assertIs(answer(partings.is_why_unfit, layout, group, row, own), own in wrong)

    def test_why_unfit_things(self):
        for layout, group, row in ((THIRDS, TWO, (0, 0, 0, 1)), (THIRDS, TWO, (0, 0, 1, 2)), (POINT, (0,), (0,)),
                                   (FIVE, (0, 3), (0, 0, 0, 0, 0, 0, 0))):
            wrong = [own for own in itertools.combinations(range(len(row)), 2)
                     if partings.is_why_unfit(layout, group, row, own)]
            self.assertEqual(bool(wrong), not partings.fits_row(layout, group, row))
            things = list(WRONG)
            for own in wrong:
                things.extend(spoiled(own) + [tuple(map(bool, own)), (bool(own[0]), own[1]), (own[0], bool(own[1]))])
            for thing in things:
                is_one = type(thing) is tuple and thing in wrong and set(map(type, thing)) == {int}
                self.assertIs(answer(partings.is_why_unfit, layout, group, row, thing), is_one)

    def test_wide_layouts(self):
        draw = random.Random(122)
        for _ in range(10):
            layout = layout_by(draw, draw.randint(3, 9), draw.randint(8, 20), draw.randint(2, 9))
            group = draw.choice(parts_of(layout))
            for theta in (0, layout[0] // 2, layout[0] - 1):
                row = partings.by_theta(layout, group, theta)
                self.assertIs(answer(partings.fits_row, layout, group, row), True)
                drawing = answer(partings.drawing_by, layout, group, row)
                self.assertEqual(row_by_hand(layout, drawing, group), row)
                self.assertTrue(is_snug_for_panes(layout, drawing))

    def test_how_many_rows_at_most(self):
        self.assertEqual(len(answer(partings.all_rows, self.joined((2, 2, 2, 2, 5, 5, 5)), (0,))), 2000)
        # so that there are just 2,001 of them
        first = (0, 3, 4, 5, 6, 9, 14, 17, 19, 21, 24, 27, 28, 31, 32, 32, 33, 38)
        layout = (5, (first, tuple(width * 5 - own for width, own in enumerate(first))))
        self.assertEqual(how_many_rows(layout, (0,), 4), 2001)
        self.assertEqual(refusal(partings.all_rows, layout, (0,)), TOO_MUCH)
        self.assertEqual(refusal(partings.all_rows, self.joined((2, 7, 11, 13)), (0,)), TOO_MUCH)
        self.assertEqual(refusal(partings.all_rows, self.joined((2,) * 20), (1,)), TOO_MUCH)

    def joined(self, steps):
        """Two panes, whole again and again: for each number the first one grows evenly by a pixel so many widths."""
        parts = 10 if 5 in steps else 2002
        first = [0]
        for many in steps:
            first.extend([first[-1] + parts // many * step for step in range(1, many + 1)])
        return parts, (tuple(first), tuple(width * parts - own for width, own in enumerate(first)))


class Wishes(unittest.TestCase):
    def test_lowest_highest_or_a_ring(self):
        draw = random.Random(123)
        seen = {True: 0, False: 0}
        for layout in SMALL:
            for group in parts_of(layout):
                fitting = fitting_by_drawings(layout, group)
                for many in (0, 1, 2, 2, 3):
                    wishes = wishes_by(draw, final_of(layout), many)
                    rows = [row for row in fitting if keeps_wishes(row, wishes)]
                    self.check(layout, group, wishes, rows)
                    seen[bool(rows)] += 1
        self.assertGreater(min(seen.values()), 100)

    def check(self, layout, group, wishes, rows):
        if rows:
            low, high = tuple(map(min, zip(*rows))), tuple(map(max, zip(*rows)))
            self.assertEqual(answer(partings.lowest_row, layout, group, wishes), low)
            self.assertEqual(answer(partings.highest_row, layout, group, wishes), high)
            self.assertIn(low, rows)
            self.assertIn(high, rows)
            self.assertEqual(refusal(partings.ring, layout, group, wishes), CAN_NOT)
            return
        self.assertEqual(refusal(partings.lowest_row, layout, group, wishes), CAN_NOT)
        self.assertEqual(refusal(partings.highest_row, layout, group, wishes), CAN_NOT)
        told = answer(partings.ring, layout, group, wishes)
        self.assertTrue(is_ring_by_hand(layout, group, wishes, told))
        self.assertIs(answer(partings.is_ring, layout, group, wishes, told), True)

    def test_all_rings(self):
        draw = random.Random(124)
        seen = 0
        for layout in [own for own in SMALL if final_of(own) == 3][:10] + [THIRDS]:
            for group in draw.sample(parts_of(layout), min(2, len(parts_of(layout)))):
                for many in (0, 2, 4):
                    wishes = wishes_by(draw, 3, many)
                    found = []
                    for own in rings_to(3):
                        found.append(is_ring_by_hand(layout, group, wishes, own))
                        self.assertIs(answer(partings.is_ring, layout, group, wishes, own), found[-1])
                    can = any(keeps_wishes(row, wishes) for row in fitting_by_drawings(layout, group))
                    self.assertIs(any(found), not can)
                    seen += sum(found)
        self.assertGreater(seen, 50)

    def test_ring_things(self):
        things = WRONG + [(0, 0), (0, 0, 0), (0, 1, 0), (0, 3, 1, 0, 0), (0, 3, 1, 3, 1, 0), (0, 3, 1), (0, 4, 0),
                          (0, -1, 0), (0, 3, 3, 1, 0), (False, 3, 1, 0), (0, 3, True, 0), (0, 3, 1, False)]
        things += spoiled((0, 3, 1, 0)) + spoiled((3, 1, 0, 3))
        for layout, wishes in ((THIRDS, WISHED), (THIRDS, ()), (POINT, ())):
            for thing in things:
                told = is_ring_by_hand(layout, TWO, wishes, thing)
                self.assertIs(answer(partings.is_ring, layout, TWO, wishes, thing), told)

    def test_wide_layouts(self):
        draw = random.Random(125)
        seen = set()
        for _ in range(30):
            layout = layout_by(draw, draw.randint(2, 6), draw.randint(8, 14), draw.randint(2, 6))
            group = draw.choice(parts_of(layout))
            wishes = wishes_by(draw, final_of(layout), draw.randint(0, 4))
            try:
                low = partings.lowest_row(layout, group, wishes)
            except ValueError:
                self.assertTrue(is_ring_by_hand(layout, group, wishes, answer(partings.ring, layout, group, wishes)))
                seen.add("ring")
                continue
            seen.add("row")
            high = answer(partings.highest_row, layout, group, wishes)
            self.assertEqual(refusal(partings.ring, layout, group, wishes), CAN_NOT)
            for row in (low, high):
                self.assertTrue(keeps_wishes(row, wishes) and partings.fits_row(layout, group, row))
            rows = [row for row in partings.all_rows(layout, group) if keeps_wishes(row, wishes)]
            self.assertEqual((low, high), (tuple(map(min, zip(*rows))), tuple(map(max, zip(*rows)))))
        self.assertEqual(seen, {"ring", "row"})

    def test_far_wishes(self):
        for wishes in (((0, 3, 10 ** 6, 10 ** 6),), ((0, 3, -10 ** 6, -10 ** 6),), ((1, 2, 2, 9),)):
            self.assertEqual(refusal(partings.lowest_row, THIRDS, TWO, wishes), CAN_NOT)
            told = answer(partings.ring, THIRDS, TWO, wishes)
            self.assertTrue(is_ring_by_hand(THIRDS, TWO, wishes, told))
        self.assertEqual(answer(partings.lowest_row, THIRDS, TWO, ((0, 3, -10 ** 6, 10 ** 6),)), (0, 0, 1, 2))


class Refused(unittest.TestCase):
    def test_all_panes(self):
        for layout, group in ((THIRDS, (0, 1, 2)), (LONE, (0,)), (POINT, (0, 1, 2))):
            row = tuple(range(final_of(layout) + 1))
            self.assertEqual(refusal(partings.by_theta, layout, group, 0), UNFIT)
            for function in (partings.fits_row, partings.why_unfit, partings.drawing_by):
                self.assertEqual(refusal(function, layout, group, row), UNFIT)
            for function in (partings.lowest_row, partings.highest_row, partings.ring):
                self.assertEqual(refusal(function, layout, group, ()), UNFIT)
            self.assertEqual(refusal(partings.all_rows, layout, group), UNFIT)
            for thing in WRONG[:30] + [(0, 2)]:
                self.assertEqual(refusal(partings.is_why_unfit, layout, group, row, thing), UNFIT)
                self.assertEqual(refusal(partings.is_ring, layout, group, (), thing), UNFIT)
        self.assertEqual(refusal(partings.growth, THIRDS, (0, 1, 2), 0, 1), UNFIT)

    def test_no_place_first(self):
        for group in (TWO, (0, 1, 2)):
            for place in (-1, 4, 10 ** 6, -10 ** 6):
                self.assertEqual(refusal(partings.growth, THIRDS, group, place, 0), no_place(place))
                self.assertEqual(refusal(partings.growth, THIRDS, group, 2, place), no_place(place))
                self.assertEqual(refusal(partings.growth, THIRDS, group, place, 99), no_place(place))
        self.assertEqual(refusal(partings.growth, POINT, (0,), 0, 0), UNFIT)
        self.assertEqual(refusal(partings.growth, POINT, (0,), 0, 1), no_place(1))

    def test_last_0(self):
        for group in ((0,), (0, 2)):
            self.assertEqual(answer(partings.lowest_row, POINT, group, ()), (0,))
            self.assertEqual(answer(partings.highest_row, POINT, group, ()), (0,))
            self.assertEqual(answer(partings.all_rows, POINT, group), [(0,)])
            self.assertEqual(answer(partings.drawing_by, POINT, group, (0,)), ())
            self.assertEqual(refusal(partings.ring, POINT, group, ()), CAN_NOT)
            self.assertEqual(refusal(partings.why_unfit, POINT, group, (0,)), CAN_NOT)


if __name__ == "__main__":
    unittest.main()
