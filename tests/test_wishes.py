"""Section 17: wishes."""

import itertools
import random
import unittest

from stillpanes import wishes
from tests.reckon import (CAN_NOT, FIVE, LONE, POINT, THIRDS, TOO_MUCH, WRONG, answer, capped, drawings_to, final_of,
                          groups_of, in_drawing, is_kept, is_whole, layout_by, layouts_by, no_place, refusal,
                          some_limits, spoiled)

SMALL = layouts_by(170, 20, 4, 5, 5) + [THIRDS, LONE, POINT, (2, ((0, 1, 2), (0, 1, 2)))]
LOOSE = (((0,), 2), ((1,), 2), ((2,), 2))
PANES = tuple(((pane,), 1) for pane in range(5))
WEST = tuple(sorted(PANES + (((0, 1), 1),)))
BOTH = tuple(sorted(WEST + (((3, 4), 1),)))


def wishes_by(draw, layout, many):
    """Some WISHES, so many at most."""
    final = final_of(layout)
    pixels = sorted(draw.sample(range(final), min(final, many)))
    return tuple((pixel, draw.randrange(len(layout[1]))) for pixel in pixels)


def near_wishes(draw, kept, many):
    """Some WISHES, each of which some of these DRAWINGS has."""
    final = len(kept[0])
    pixels = sorted(draw.sample(range(final), min(final, many)))
    return tuple((pixel, draw.choice(kept)[pixel]) for pixel in pixels)


def kept_by(layout, limits):
    """All DRAWINGS that keep limits, ascending."""
    return [own for own in drawings_to(len(layout[1]), final_of(layout)) if is_kept(layout, own, limits)]


def good_of(kept, wished):
    """Those of these DRAWINGS that have the panes of wished."""
    return [own for own in kept if all(own[pixel] == pane for pixel, pane in wished)]


def pairs_of(layout):
    return list(itertools.product(range(final_of(layout)), range(len(layout[1]))))


def sure_of(layout, good):
    return tuple(pair for pair in pairs_of(layout) if all(own[pair[0]] == pair[1] for own in good))


def parts_of(wished):
    """All sets of some of these pairs."""
    return [part for many in range(len(wished) + 1) for part in itertools.combinations(wished, many)]


def clashes_of(kept, wished):
    """All CLASHES, by looking at each part of wished."""
    if good_of(kept, wished):
        return []
    return [part for part in parts_of(wished) if not good_of(kept, part)
            and all(good_of(kept, part[:at] + part[at + 1:]) for at in range(len(part)))]


def are_wishes_by_hand(layout, thing):
    if type(thing) is not tuple:
        return False
    for own in thing:
        if type(own) is not tuple or len(own) != 2 or not all(map(is_whole, own)) or own not in pairs_of(layout):
            return False
    pixels = [pixel for pixel, _ in thing]
    return pixels == sorted(set(pixels))


def close_limits(draw, layout):
    """LIMITS, the first ones of some tried ones, that a few DRAWINGS keep; with these DRAWINGS."""
    parts, panes = layout[0], len(layout[1])
    groups = [own for own in groups_of(panes) if len(own) > 1]
    while True:
        told = {own: draw.randint(parts // 2, parts) for own in draw.sample(groups, 2)}
        told.update({(pane,): draw.randint(parts // 2, parts) for pane in range(panes)})
        limits = tuple(sorted(told.items()))
        kept = kept_by(layout, limits)
        if 2 <= len(kept) <= 15:
            return limits, kept


class ByAllDrawings(unittest.TestCase):
    @classmethod
    def setUpClass(cls):
        draw = random.Random(171)
        told = []
        for layout in SMALL:
            for limits in (some_limits(draw, layout), (((0,), draw.randint(layout[0], 2 * layout[0])),)):
                told.append((layout, limits, kept_by(layout, limits)))
        for _ in range(40):
            layout = layout_by(draw, draw.randint(3, 4), 5, draw.randint(3, 6))
            told.append((layout, *close_limits(draw, layout)))
        cls.cases = []
        for layout, limits, kept in told:
            wished = [wishes_by(draw, layout, draw.randint(0, 5))]
            if kept:
                wished.append(near_wishes(draw, kept, draw.randint(1, 5)))
                wished.append(near_wishes(draw, kept, 4))
            # more than a pane may have
            wished.append(tuple((pixel, 0) for pixel in range(final_of(layout))))
            cls.cases.extend((layout, limits, kept, own) for own in wished)

    def test_good_drawings(self):
        seen = {True: 0, False: 0}
        for layout, limits, kept, wished in self.cases:
            good = good_of(kept, wished)
            seen[bool(good)] += 1
            self.assertIs(answer(wishes.can_be, layout, limits, wished), bool(good))
            if good:
                self.assertEqual(answer(wishes.good_drawing, layout, limits, wished), good[0])
            else:
                self.assertEqual(refusal(wishes.good_drawing, layout, limits, wished), CAN_NOT)
        self.assertGreater(min(seen.values()), 30)

    def test_who_gets_and_never(self):
        for layout, limits, kept, wished in self.cases:
            good = good_of(kept, wished)
            told = []
            for pixel in range(final_of(layout)):
                panes = answer(wishes.who_gets, layout, limits, wished, pixel)
                self.assertEqual(panes, tuple(sorted({own[pixel] for own in good})))
                told.extend((pixel, pane) for pane in panes)
            rest = tuple(pair for pair in pairs_of(layout) if pair not in told)
            self.assertEqual(answer(wishes.never, layout, limits, wished), rest)

    def test_sure_pixels(self):
        alone = 0
        for layout, limits, kept, wished in self.cases:
            good = good_of(kept, wished)
            if not good:
                self.assertEqual(refusal(wishes.sure_pixels, layout, limits, wished), CAN_NOT)
                continue
            told = answer(wishes.sure_pixels, layout, limits, wished)
            self.assertEqual(told, sure_of(layout, good))
            self.assertIs(len(told) == final_of(layout), len(good) == 1)
            alone += len(good) == 1
            self.assertLessEqual(set(wished), set(told))
        self.assertGreater(alone, 10)

    def test_pixels_between(self):
        for layout, limits, kept, wished in self.cases[::2]:
            good = good_of(kept, wished)
            for group in groups_of(len(layout[1]))[::2]:
                for width in range(final_of(layout) + 1):
                    if not good:
                        self.assertEqual(refusal(wishes.pixels_between, layout, limits, wished, group, width), CAN_NOT)
                        continue
                    many = [in_drawing(own, group, width) for own in good]
                    told = answer(wishes.pixels_between, layout, limits, wished, group, width)
                    self.assertEqual(told, (min(many), max(many)))

    def test_forced_by(self):
        some = 0
        for layout, limits, kept, wished in self.cases[::2]:
            good = good_of(kept, wished)
            for pixel, pane in pairs_of(layout):
                more = good_of(good, ((pixel, pane),))
                if not more:
                    self.assertEqual(refusal(wishes.forced_by, layout, limits, wished, pixel, pane), CAN_NOT)
                    continue
                sure = sure_of(layout, good)
                forced = tuple(own for own in sure_of(layout, more) if own not in sure and own[0] != pixel)
                self.assertEqual(answer(wishes.forced_by, layout, limits, wished, pixel, pane), forced)
                some += bool(forced)
        self.assertGreater(some, 20)

    def test_clashes(self):
        sizes = set()
        for layout, limits, kept, wished in self.cases:
            clashes = clashes_of(kept, wished)
            self.assertIs(bool(clashes), not good_of(kept, wished))
            if clashes:
                told = answer(wishes.clash, layout, limits, wished)
                self.assertIn(told, clashes)
                sizes.add(len(told))
            else:
                self.assertEqual(refusal(wishes.clash, layout, limits, wished), CAN_NOT)
            for part in parts_of(wished):
                self.assertIs(answer(wishes.is_clash, layout, limits, wished, part), part in clashes)
        self.assertLessEqual({0, 1, 2, 3}, sizes)

    def test_more_pairs_never_help(self):
        draw = random.Random(172)
        for layout, limits, kept, wished in self.cases[::3]:
            good = set(good_of(kept, wished))
            for left in range(len(wished)):
                fewer = wished[:left] + wished[left + 1:]
                self.assertLessEqual(good, set(good_of(kept, fewer)))
                if good:
                    self.assertIs(wishes.can_be(layout, limits, fewer), True)
            if limits and good:
                some = tuple(sorted(draw.sample(limits, len(limits) - 1)))
                self.assertIs(wishes.can_be(layout, some, wished), True)
                self.assertLessEqual(wishes.good_drawing(layout, some, wished), min(good))


class Things(unittest.TestCase):
    def test_are_wishes(self):
        for layout in (THIRDS, FIVE, LONE, POINT):
            things = list(WRONG)
            for own in ((), ((0, 0),), ((0, 1), (1, 0), (2, 0)), ((0, 4), (5, 0)), ((2, 2),), ((0, 0), (0, 1))):
                things.extend([own, list(own), tuple(map(list, own))] + spoiled(own))
            for thing in things:
                self.assertIs(answer(wishes.are_wishes, layout, thing), are_wishes_by_hand(layout, thing))

    def test_is_clash(self):
        wished = ((0, 0), (3, 1), (5, 2))
        cases = [(FIVE, WEST, wished), (FIVE, BOTH, wished), (FIVE, WEST, wished[:2]), (POINT, (), ()),
                 (LONE, (((0,), 0),), ((0, 0), (2, 0))), (THIRDS, (((0,), 1),), ((0, 0), (1, 0)))]
        for layout, limits, own in cases:
            clashes = clashes_of(kept_by(layout, limits), own)
            things = WRONG + [part for part in parts_of(own)]
            for part in parts_of(own):
                things.extend(spoiled(part) + [list(part)])
            for thing in things:
                is_one = are_wishes_by_hand(layout, thing) and thing in clashes
                self.assertIs(answer(wishes.is_clash, layout, limits, own, thing), is_one)

    def test_pairs_that_are_no_wishes_are_no_clash(self):
        # (0, 0), (5, 2) clash, yet only (0, 0) is wished
        self.assertIs(answer(wishes.is_clash, FIVE, WEST, ((0, 0),), ((0, 0), (5, 2))), False)
        # nobody can have the first pixel: no wish is needed for that
        close = (((0,), 1), ((1,), 1), ((2,), 1))
        self.assertEqual(answer(wishes.clash, THIRDS, close, ((0, 1),)), ())
        self.assertIs(answer(wishes.is_clash, THIRDS, close, ((0, 1),), ((0, 1),)), False)

    def test_one_pane(self):
        self.assertEqual(refusal(wishes.clash, LONE, (((0,), 0),), ((1, 0),)), CAN_NOT)
        self.assertEqual(answer(wishes.sure_pixels, LONE, (), ((1, 0),)), ((0, 0), (1, 0), (2, 0)))
        self.assertEqual(answer(wishes.never, LONE, (), ()), ())
        self.assertEqual(answer(wishes.forced_by, LONE, (), (), 1, 0), ())
        self.assertIs(answer(wishes.is_clash, LONE, (), ((1, 0),), ((1, 0),)), False)


class Edges(unittest.TestCase):
    def test_last_0(self):
        for limits in ((), (((0,), 0),), (((0, 1, 2), 0), ((1,), 10 ** 9))):
            self.assertIs(answer(wishes.can_be, POINT, limits, ()), True)
            self.assertEqual(answer(wishes.good_drawing, POINT, limits, ()), ())
            self.assertEqual(answer(wishes.sure_pixels, POINT, limits, ()), ())
            self.assertEqual(answer(wishes.never, POINT, limits, ()), ())
            self.assertEqual(answer(wishes.pixels_between, POINT, limits, (), (0, 2), 0), (0, 0))
            self.assertEqual(refusal(wishes.clash, POINT, limits, ()), CAN_NOT)
            self.assertEqual(refusal(wishes.who_gets, POINT, limits, (), 0), no_place(0))
            self.assertEqual(refusal(wishes.forced_by, POINT, limits, (), 0, 0), no_place(0))

    def test_wishes_for_every_pixel(self):
        for drawing in drawings_to(3, 3):
            wished = tuple(enumerate(drawing))
            can = sorted(drawing) == [0, 1, 2]
            self.assertIs(answer(wishes.can_be, THIRDS, LOOSE, wished), can)
            if can:
                self.assertEqual(answer(wishes.good_drawing, THIRDS, LOOSE, wished), drawing)
                self.assertEqual(answer(wishes.sure_pixels, THIRDS, LOOSE, wished), wished)
                self.assertEqual(answer(wishes.forced_by, THIRDS, LOOSE, wished, 1, drawing[1]), ())
                continue
            self.assertIn(answer(wishes.clash, THIRDS, LOOSE, wished), clashes_of(kept_by(THIRDS, LOOSE), wished))

    def test_without_wishes(self):
        self.assertEqual(answer(wishes.good_drawing, THIRDS, (), ()), (0, 0, 0))
        self.assertEqual(answer(wishes.good_drawing, FIVE, WEST, ()), (0, 2, 1, 1, 4, 1))
        self.assertEqual(answer(wishes.sure_pixels, FIVE, WEST, ()), ((3, 1),))
        self.assertEqual(answer(wishes.clash, FIVE, BOTH, ()), ())
        self.assertIs(answer(wishes.is_clash, FIVE, BOTH, (), ()), True)
        self.assertIs(answer(wishes.is_clash, FIVE, WEST, (), ()), False)

    def test_offs_of_0(self):
        whole = (2, ((0, 2, 2, 4), (0, 0, 2, 2)))
        exact = (((0,), 0), ((1,), 0))
        self.assertEqual(answer(wishes.sure_pixels, whole, exact, ()), ((0, 0), (1, 1), (2, 0)))
        self.assertEqual(answer(wishes.clash, whole, exact, ((0, 0), (1, 0), (2, 1))), ((2, 1),))
        self.assertIs(answer(wishes.is_clash, whole, exact, ((0, 0), (1, 0), (2, 1)), ((1, 0),)), True)
        self.assertEqual(refusal(wishes.sure_pixels, THIRDS, (((0,), 0),), ()), CAN_NOT)
        self.assertEqual(answer(wishes.never, THIRDS, (((0,), 0),), ()), tuple(pairs_of(THIRDS)))

    def test_a_pixel_that_is_wished_already(self):
        self.assertEqual(answer(wishes.forced_by, FIVE, WEST, ((0, 0),), 0, 0), ())
        self.assertEqual(refusal(wishes.forced_by, FIVE, WEST, ((0, 0),), 0, 3), CAN_NOT)
        self.assertEqual(answer(wishes.who_gets, FIVE, WEST, ((0, 0),), 0), (0,))


class Errors(unittest.TestCase):
    # so many STATES at the widths 12, 13: 3,338 and 4,001; never more than 4,000
    MORE, MOST = (1, 7, 12, 12, 12), (9, 9, 7, 4)

    def calls(self, layout, limits, wished):
        """The calls of all functions that look for good DRAWINGS."""
        for function in (wishes.can_be, wishes.good_drawing, wishes.sure_pixels, wishes.never, wishes.clash):
            yield function, (layout, limits, wished)
        yield wishes.who_gets, (layout, limits, wished, 0)
        yield wishes.pixels_between, (layout, limits, wished, (0, 2), 1)
        yield wishes.forced_by, (layout, limits, wished, 1, 5)

    def test_too_much(self):
        layout, limits = capped(self.MORE, 14)
        # the second one has no good DRAWING, and is soon seen to have none
        for wished in ((), ((0, 0), (1, 0)), tuple((pixel, 5) for pixel in range(14))):
            for function, args in self.calls(layout, limits, wished):
                self.assertEqual(refusal(function, *args), TOO_MUCH)
            for thing in (None, "", (), wished, wished[:1], [wished]):
                self.assertEqual(refusal(wishes.is_clash, layout, limits, wished, thing), TOO_MUCH)

    def test_at_the_bound(self):
        layout, limits = capped(self.MOST, 30)
        wished = ((0, 0), (7, 2), (29, 4))
        drawing = answer(wishes.good_drawing, layout, limits, wished)
        self.assertEqual([drawing[pixel] for pixel, _ in wished], [0, 2, 4])
        self.assertTrue(is_kept(layout, drawing, limits))
        self.assertEqual(answer(wishes.pixels_between, layout, limits, wished, (0, 1), 30), (1, 18))
        self.assertEqual(answer(wishes.pixels_between, layout, limits, wished, (2,), 7), (0, 6))
        self.assertEqual(answer(wishes.clash, layout, limits, tuple((pixel, 3) for pixel in range(5, 10))),
                         tuple((pixel, 3) for pixel in range(5, 10)))
        short, limits = capped(self.MORE, 12)
        self.assertIs(answer(wishes.can_be, short, limits, ()), True)

    def test_no_more_behind_the_fall(self):
        # the TABLE ends at 1, however many STATES there would be without that
        layout, limits = capped(self.MORE, 14)
        near = tuple(sorted(limits + (((0, 5), 0), ((1, 5), 0), ((0, 1), 0))))
        rows = list(layout[1])
        rows[0] = tuple(min(1, width) for width in range(15))
        rows[5] = tuple(own - less for own, less in zip(rows[5], rows[0]))
        layout = (layout[0], tuple(rows))
        self.assertIs(answer(wishes.can_be, layout, near, ()), False)
        self.assertEqual(answer(wishes.clash, layout, near, ((3, 1),)), ())
        self.assertEqual(refusal(wishes.sure_pixels, layout, near, ()), CAN_NOT)

    def test_no_place_ahead_of_all(self):
        layout, limits = capped(self.MORE, 14)
        for told in ((layout, limits), (FIVE, BOTH), (FIVE, WEST)):
            final, panes = final_of(told[0]), len(told[0][1])
            for place in (-1, final, -final, final + 3, 10 ** 6, -10 ** 6):
                self.assertEqual(refusal(wishes.who_gets, *told, ((1, 0),), place), no_place(place))
                self.assertEqual(refusal(wishes.forced_by, *told, (), place, 0), no_place(place))
                # the pixel comes ahead of the pane
                self.assertEqual(refusal(wishes.forced_by, *told, (), place, panes), no_place(place))
                if place != final:
                    self.assertEqual(refusal(wishes.pixels_between, *told, (), (0,), place), no_place(place))
            self.assertEqual(refusal(wishes.pixels_between, *told, (), (0,), final + 1), no_place(final + 1))
            for pane in (-1, panes, -panes, 10 ** 6):
                self.assertEqual(refusal(wishes.forced_by, *told, ((0, 1),), 0, pane), no_place(pane))

    def test_can_not_without_a_good_drawing(self):
        for wished in ((), ((0, 0),), ((0, 0), (5, 2))):
            for function, args in self.calls(FIVE, BOTH, wished):
                if function in (wishes.can_be, wishes.who_gets, wishes.never, wishes.clash):
                    answer(function, *args)
                elif function is not wishes.forced_by:
                    self.assertEqual(refusal(function, *args), CAN_NOT)
            self.assertEqual(refusal(wishes.forced_by, FIVE, BOTH, wished, 1, 4), CAN_NOT)
            self.assertEqual(answer(wishes.who_gets, FIVE, BOTH, wished, 1), ())
            self.assertEqual(answer(wishes.never, FIVE, BOTH, wished), tuple(pairs_of(FIVE)))


if __name__ == "__main__":
    unittest.main()
