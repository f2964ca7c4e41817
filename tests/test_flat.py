"""Section 12: flat drawings."""

import itertools
import random
import unittest

from stillpanes import flat
from stillpanes.layouts import finer
from tests.reckon import (CAN_NOT, FIVE, LONE, POINT, THIRDS, WRONG, answer, drawings_to, final_of, in_drawing,
                          layout_by, layouts_by, pair_at, presses_by_hand, refusal, spoiled, tiny_layouts, wide)

SMALL = layouts_by(90, 40, 4, 4, 6) + [THIRDS, LONE, POINT] + list(tiny_layouts(2, 3, 3))
LATE = (4, ((0, 1, 2, 3, 4), (0, 3, 6, 9, 12)))


def lone(layout):
    return tuple((pane,) for pane in range(len(layout[1])))


def worst_of(layout, drawing):
    """The greatest off of a lone pane."""
    return max(abs(in_drawing(drawing, own, width) * layout[0] - wide(layout, own, width))
               for own in lone(layout) for width in range(final_of(layout) + 1))


def span_by_hand(layout, pane, number, off):
    pairs = [pair_at(layout, (pane,), width, off) for width in range(final_of(layout) + 1)]
    first = [width for width, pair in enumerate(pairs) if pair and pair[1] >= number]
    last = [width for width, pair in enumerate(pairs) if pair and pair[0] >= number]
    return (first or [None])[0], (last or [None])[0]


def earliest_by_hand(layout, off):
    """The DRAWING that is made pixel by pixel, word by word; None for CanNot()."""
    final = final_of(layout)
    if any(pair_at(layout, own, width, off) is None for own in lone(layout) for width in range(final + 1)):
        return None
    drawing = []
    for width in range(1, final + 1):
        found = []
        for pane in range(len(layout[1])):
            first, last = span_by_hand(layout, pane, drawing.count(pane) + 1, off)
            if first is not None and first <= width:
                found.append((10 ** 9 if last is None else last, pane))
        if not found or min(found)[0] < width:
            return None
        drawing.append(min(found)[1])
    for pane in range(len(layout[1])):
        if span_by_hand(layout, pane, drawing.count(pane) + 1, off)[1] is not None:
            return None
    return tuple(drawing)


def offs_for(layout):
    return sorted({*range(layout[0] + 2), 2 * layout[0], 10 * layout[0]})


class Flat(unittest.TestCase):
    def test_by_all_drawings(self):
        for layout in SMALL:
            offs = {own: worst_of(layout, own) for own in drawings_to(len(layout[1]), final_of(layout))}
            least = min(offs.values())
            self.assertEqual(answer(flat.least_flat, layout), least)
            for off in offs_for(layout):
                self.check(layout, off, offs, off >= least)

    def check(self, layout, off, offs, can):
        whole = tuple(range(final_of(layout) + 1))
        presses = presses_by_hand(layout, lone(layout), whole, off)
        self.assertIs(bool(presses), not can)
        if not can:
            for function in (flat.flat, flat.earliest):
                self.assertEqual(refusal(function, layout, off), CAN_NOT)
            self.assertIn(answer(flat.flat_press, layout, off), presses)
            self.assertIsNone(earliest_by_hand(layout, off))
            return
        self.assertLessEqual(offs[answer(flat.flat, layout, off)], off)
        told = answer(flat.earliest, layout, off)
        self.assertEqual(told, earliest_by_hand(layout, off))
        self.assertLessEqual(offs[told], off)
        self.assertEqual(refusal(flat.flat_press, layout, off), CAN_NOT)

    def test_is_flat_for_all_drawings(self):
        for layout in SMALL[::3]:
            for off in offs_for(layout)[::2]:
                for own in drawings_to(len(layout[1]), final_of(layout)):
                    self.assertIs(answer(flat.is_flat, layout, off, own), worst_of(layout, own) <= off)

    def test_things(self):
        for layout, off in ((THIRDS, 2), (THIRDS, 1), (LATE, 3), (LONE, 0), (POINT, 0), (FIVE, 1), (FIVE, 0)):
            drawings = set(drawings_to(len(layout[1]), final_of(layout)))
            things = list(WRONG)
            for own in list(drawings)[:4] + [(0, 1, 2), (1, 0, 1, 1), (0, 0, 0)]:
                things.extend(spoiled(own) + [list(own)])
            for thing in things:
                is_one = (type(thing) is tuple and all(type(own) is int for own in thing) and thing in drawings
                          and worst_of(layout, thing) <= off)
                self.assertIs(answer(flat.is_flat, layout, off, thing), is_one)

    def test_press_things(self):
        for layout, off in ((THIRDS, 2), (THIRDS, 1), (THIRDS, 0), (LATE, 1), (LONE, 0), (POINT, 0), (FIVE, 0)):
            whole = tuple(range(final_of(layout) + 1))
            presses = presses_by_hand(layout, lone(layout), whole, off)
            things = WRONG + [(word, one, two) for word in ("bare", "more", "fewer") for one in range(-1, 6)
                              for two in range(-1, 6)]
            for own in presses[:3]:
                things.extend(spoiled(own))
            for thing in things:
                is_one = thing in presses and type(thing) is tuple and set(map(type, thing[1:])) == {int}
                self.assertIs(answer(flat.is_flat_press, layout, off, thing), is_one)

    def test_earliest_of_wide_layouts(self):
        draw = random.Random(91)
        for _ in range(40):
            layout = layout_by(draw, draw.randint(2, 8), draw.randint(6, 14), draw.randint(1, 12))
            least = answer(flat.least_flat, layout)
            for off in range(max(0, least - 2), least + 3):
                told = earliest_by_hand(layout, off)
                self.assertIs(told is None, off < least)
                if told is None:
                    self.assertEqual(refusal(flat.earliest, layout, off), CAN_NOT)
                    self.assertEqual(refusal(flat.flat, layout, off), CAN_NOT)
                    press = answer(flat.flat_press, layout, off)
                    self.assertIs(answer(flat.is_flat_press, layout, off, press), True)
                    continue
                self.assertEqual(answer(flat.earliest, layout, off), told)
                self.assertLessEqual(worst_of(layout, answer(flat.flat, layout, off)), off)
                self.assertEqual(refusal(flat.flat_press, layout, off), CAN_NOT)

    def test_edges(self):
        for off in (0, 10 ** 9):
            self.assertEqual(answer(flat.flat, POINT, off), ())
            self.assertEqual(answer(flat.earliest, POINT, off), ())
            self.assertEqual(answer(flat.earliest, LONE, off), (0, 0, 0))
            self.assertIs(answer(flat.is_flat, POINT, off, ()), True)
        self.assertEqual(answer(flat.least_flat, POINT), 0)
        self.assertEqual(answer(flat.least_flat, LONE), 0)
        self.assertEqual(answer(flat.earliest, THIRDS, 10 ** 9), (0, 0, 0))
        self.assertEqual(answer(flat.earliest, (2, ((0, 1, 2), (0, 1, 2))), 1), (0, 1))


class Promise(unittest.TestCase):
    def test_by_its_words(self):
        for many in (1, 2, 3, 4, 5, 11, 12, 10 ** 6):
            for parts in (*range(1, 60), 10 ** 6):
                told = answer(flat.promise, many, parts)
                if many == 1:
                    self.assertEqual(told, 0)
                    continue
                self.assertLessEqual(told * (2 * many - 2), parts * (2 * many - 3))
                self.assertGreater((told + 1) * (2 * many - 2), parts * (2 * many - 3))

    def test_kept_by_all_layouts(self):
        draw = random.Random(92)
        drawn = [layout_by(draw, draw.randint(1, 12), draw.randint(0, 20), draw.randint(1, 24)) for _ in range(150)]
        for layout in drawn + SMALL + list(tiny_layouts(3, 3, 3)):
            most = flat.promise(len(layout[1]), layout[0])
            self.assertLessEqual(flat.least_flat(layout), most)
            self.assertLessEqual(worst_of(layout, flat.flat(layout, most)), most)
            self.assertLess(most, layout[0])

    def test_hardest(self):
        for many in range(2, 13):
            parts, rows = answer(flat.hardest, many)
            self.assertEqual(parts, 2 * many - 2)
            self.assertEqual(rows[:-1], (tuple([0] + list(range(1, 2 * many - 2, 2))),) * (many - 1))
            self.assertEqual(rows[-1], (0,) + (many - 1,) * (many - 1))
            self.assertEqual([sum(own) for own in zip(*rows)], [width * parts for width in range(many)])
            self.assertEqual(answer(flat.least_flat, (parts, rows)), 2 * many - 3)
            self.assertEqual(answer(flat.promise, many, parts), 2 * many - 3)

    def test_hardest_by_all_drawings(self):
        for many in (2, 3, 4, 5):
            layout = flat.hardest(many)
            drawings = itertools.product(range(many), repeat=many - 1)
            self.assertEqual(min(worst_of(layout, own) for own in drawings), 2 * many - 3)

    def test_finer_parts(self):
        for layout in SMALL[:30]:
            for many in (1, 2, 5):
                told = answer(flat.least_flat, finer(layout, many))
                self.assertEqual(told, many * answer(flat.least_flat, layout))


if __name__ == "__main__":
    unittest.main()
