"""Section 15: bars."""

import ast
import functools
import os
import random
import unittest

from stillpanes import bars
from stillpanes.boxes import borders
from stillpanes.levels import by_levels
from tests.reckon import (CAN_NOT, FIVE, LONE, POINT, THIRDS, TOO_MUCH, UNFIT, WRONG, all_boxes, answer, boxes_by,
                          drawings_to, final_of, groups_of, in_drawing, layout_by, layouts_by, off_by, pair_at, refusal,
                          spoiled, wide)

TWO = ((0, 1), (3, 4))
SNUG = (((0,), 1), ((0, 1), 1), ((1,), 1), ((2,), 1), ((3,), 1), ((3, 4), 1), ((4,), 1))


def groups_by_hand(layout, boxes):
    return sorted([*boxes, *((pane,) for pane in range(len(layout[1])))])


def holders_by_hand(layout, boxes):
    """A dict from each holder, all panes told as None, to its things."""
    found = {None: []}
    for group in groups_by_hand(layout, boxes):
        around = [box for box in boxes if set(group) < set(box)]
        found.setdefault(min(around, key=len) if around else None, []).append(group)
    return found


def narrowed_by_hand(layout, boxes, limits, cuts, draw=None):
    """A dict of RANGES, by leaving out one end after another in some order; None if they fall.

    cuts are tuples (group, width, least, most) to be kept beside the limits.
    """
    final, told = final_of(layout), dict(limits)
    pairs = {}
    for width in range(final + 1):
        pairs[None, width] = (width, width)
        for group in groups_by_hand(layout, boxes):
            pairs[group, width] = pair_at(layout, group, width, told[group]) if group in told else (0, width)
    if None in pairs.values():
        return None
    for group, width, least, most in cuts:
        pairs[group, width] = (max(pairs[group, width][0], least), min(pairs[group, width][1], most))
    if any(least > most for least, most in pairs.values()):
        return None
    holders = holders_by_hand(layout, boxes)
    places = sorted(pairs, key=repr)
    while True:
        if draw:
            draw.shuffle(places)
        left_out = [it for it in ((place, end) for place in places for end in (0, 1))
                    if not can_be(pairs, holders, it[0], pairs[it[0]][it[1]])]
        if not left_out:
            return pairs
        for place, end in left_out if not draw else left_out[:1 + draw.randrange(3)]:
            least, most = pairs[place]
            pairs[place] = (least + 1, most) if end == 0 else (least, most - 1)
            if pairs[place][0] > pairs[place][1]:
                return None


def can_be(pairs, holders, place, many):
    """Whether such a number can be by each of both rules, whatever the others have in their pairs."""
    group, width = place
    for beside, shift in ((width - 1, -1), (width + 1, 1)):
        if (group, beside) in pairs:
            least, most = pairs[group, beside]
            if not any(least <= own <= most for own in (many, many + shift)):
                return False
    for holder, things in holders.items():
        if group in things or group == holder:
            ends = {own: pairs[own, width] for own in [holder, *things]}
            ends[group] = (many, many)
            least, most = sum(ends[own][0] for own in things), sum(ends[own][1] for own in things)
            if least > ends[holder][1] or most < ends[holder][0]:
                return False
    return True


def are_cases_by_hand(layout, boxes, limits, thing, cuts=()):
    if type(thing) is not tuple:
        return False
    if thing == ():
        return falls_by_hand(layout, boxes, limits, tuple(sorted(cuts, key=repr)))
    if len(thing) != 5:
        return False
    group, width, number, small, great = thing
    if type(group) is not tuple or not all(type(own) is int for own in group) or type(width) is not int:
        return False
    if type(number) is not int or group not in groups_by_hand(layout, boxes) or not 0 <= width <= final_of(layout):
        return False
    return (are_cases_by_hand(layout, boxes, limits, small, (*cuts, (group, width, 0, number)))
            and are_cases_by_hand(layout, boxes, limits, great, (*cuts, (group, width, number + 1, 10 ** 60))))


@functools.lru_cache(None)
def falls_by_hand(layout, boxes, limits, cuts):
    return narrowed_by_hand(layout, boxes, limits, cuts) is None


def is_kept(layout, drawing, limits):
    for group, off in limits:
        for width in range(final_of(layout) + 1):
            if abs(in_drawing(drawing, group, width) * layout[0] - wide(layout, group, width)) > off:
                return False
    return True


def stands_by_hand(layout, limits):
    """For each width the set of what the panes can have there if limits are kept so far."""
    found = [{(0,) * len(layout[1])}]
    for width in range(1, final_of(layout) + 1):
        near = [(group, off, wide(layout, group, width)) for group, off in limits]
        more = {own[:pane] + (many + 1,) + own[pane + 1:] for own in found[-1] for pane, many in enumerate(own)}
        found.append({own for own in more if all(abs(sum(own[pane] for pane in group) * layout[0] - exact) <= off
                                                 for group, off, exact in near)})
    return found


def close_examples():
    """The triples (layout, boxes, limits) of the file."""
    folder = os.path.join(os.path.dirname(os.path.abspath(__file__)), "examples")
    with open(os.path.join(folder, "close_limits.txt")) as file:
        return [ast.literal_eval(line) for line in file]


def some_limits(draw, layout, boxes):
    """LIMITS of some boxes and lone panes, closer and farther ones."""
    groups = groups_by_hand(layout, boxes)
    parts = layout[0]
    kind = draw.randrange(4)
    if kind == 0:
        return tuple((own, parts - 1) for own in groups)
    told = sorted(draw.sample(groups, draw.randint(0 if kind == 1 else len(groups) // 2, len(groups))))
    return tuple((own, draw.choice((parts - 1, parts // 2, parts, parts + 1, 2 * parts, 0 if kind == 1 else parts)))
                 for own in told)


def close_limits(draw, layout, boxes):
    """LIMITS that some DRAWING just keeps, or a little closer ones."""
    drawing = [draw.randrange(len(layout[1])) for _ in range(final_of(layout))]
    if draw.random() < 0.7:
        drawing = by_levels(layout, boxes)
    told = {group: off_by(layout, group, tuple(in_drawing(drawing, group, width) for width in range(len(drawing) + 1)))
            for group in groups_by_hand(layout, boxes)}
    for _ in range(draw.randint(0, 3)):
        group = max(told, key=lambda own: (told[own] * draw.random(), own))
        told[group] = max(0, told[group] - draw.randint(1, 2))
    return tuple(sorted(told.items()))


def small_cases(seed, many, panes=4, final=4, parts=5):
    draw = random.Random(seed)
    for layout in layouts_by(seed, many, panes, final, parts):
        boxes = boxes_by(draw, len(layout[1]))
        yield layout, boxes, draw.choice((some_limits, close_limits, close_limits))(draw, layout, boxes)


class Ranges(unittest.TestCase):
    def test_in_whatever_order(self):
        draw = random.Random(150)
        fell = set()
        for layout, boxes, limits in [*small_cases(151, 80), (FIVE, TWO, SNUG), (LONE, (), (((0,), 7),)),
                                      (POINT, ((0, 2),), (((0, 2), 0),)), (THIRDS, (), ())]:
            pairs = narrowed_by_hand(layout, boxes, limits, ())
            self.assertEqual(pairs, narrowed_by_hand(layout, boxes, limits, (), draw))
            fell.add(pairs is None)
            told = pairs and tuple(tuple(pairs[group, width] for width in range(final_of(layout) + 1))
                                   for group in groups_by_hand(layout, boxes))
            self.assertEqual(answer(bars.ranges, layout, boxes, limits), told)
            self.assertIs(answer(bars.is_cases, layout, boxes, limits, ()), pairs is None)
        self.assertEqual(fell, {True, False})

    def test_a_box_grows_by_one_at_most(self):
        # both panes could get, or need, a pixel at the same width; the box can't
        layout = (2, ((0, 0, 1, 2), (0, 0, 1, 2), (0, 1, 1, 1), (0, 1, 1, 1)))
        told = answer(bars.ranges, layout, ((0, 1),), (((0,), 1), ((1,), 1)))
        self.assertEqual(told[1], ((0, 0), (0, 0), (1, 1), (2, 2)))
        self.assertEqual(told[0], ((0, 0), (0, 0), (0, 1), (1, 1)))

    def test_edges(self):
        self.assertEqual(answer(bars.ranges, POINT, (), ()), (((0, 0),),) * 3)
        self.assertEqual(answer(bars.ranges, LONE, (), ()), (((0, 0), (1, 1), (2, 2), (3, 3)),))
        self.assertEqual(answer(bars.ranges, THIRDS, (), ()), (((0, 0), (0, 1), (0, 2), (0, 3)),) * 3)
        self.assertIsNone(answer(bars.ranges, THIRDS, (), (((0,), 0),)))
        self.assertIsNone(answer(bars.ranges, THIRDS, (), (((0,), 1), ((1,), 1), ((2,), 1))))
        self.assertEqual(answer(bars.ranges, THIRDS, (), (((0,), 10 ** 9),))[0], ((0, 0), (0, 1), (0, 2), (0, 3)))


class Cases(unittest.TestCase):
    def test_cases_or_a_drawing(self):
        seen = {True: 0, False: 0}
        kinds = set()
        for layout, boxes, limits in [*small_cases(152, 400), *small_cases(153, 100, 3, 6, 4), (FIVE, TWO, SNUG)]:
            can = any(is_kept(layout, own, limits) for own in drawings_to(len(layout[1]), final_of(layout)))
            seen[can] += 1
            if can:
                self.assertEqual(refusal(bars.cases, layout, boxes, limits), CAN_NOT)
                continue
            told = answer(bars.cases, layout, boxes, limits)
            self.assertTrue(are_cases_by_hand(layout, boxes, limits, told))
            self.assertIs(answer(bars.is_cases, layout, boxes, limits, told), True)
            kinds.add(told == ())
        self.assertGreater(min(seen.values()), 30)
        self.assertEqual(kinds, {True, False})

    def test_close_limits(self):
        # those of the file: limits that no DRAWING keeps, though their RANGES do not fall at once
        kept = 0
        for layout, boxes, limits in close_examples():
            self.assertEqual(stands_by_hand(layout, limits)[-1], set())
            self.assertIs(answer(bars.is_cases, layout, boxes, limits, ()), False)
            told = answer(bars.cases, layout, boxes, limits)
            self.assertTrue(are_cases_by_hand(layout, boxes, limits, told))
            self.assertIs(answer(bars.is_cases, layout, boxes, limits, told), True)
            for at in range(len(limits)):
                looser = limits[:at] + ((limits[at][0], limits[at][1] + 1),) + limits[at + 1:]
                if stands_by_hand(layout, looser)[-1]:
                    kept += 1
                    self.assertEqual(refusal(bars.cases, layout, boxes, looser), CAN_NOT)
                    self.assertIs(answer(bars.is_cases, layout, boxes, looser, told), False)
        self.assertGreater(kept, 35)

    def test_close_limits_spoiled(self):
        seen = {True: 0, False: 0}
        for layout, boxes, limits in close_examples()[:30:6]:
            for thing in spoiled(bars.cases(layout, boxes, limits)):
                told = are_cases_by_hand(layout, boxes, limits, thing)
                self.assertIs(answer(bars.is_cases, layout, boxes, limits, thing), told)
                seen[told] += 1
        self.assertGreater(min(seen.values()), 5)

    def test_is_cases_of_whatever_steps(self):
        draw = random.Random(154)
        seen = {True: 0, False: 0}
        for layout, boxes, limits in [*small_cases(155, 60, 4, 3), (FIVE, TWO, SNUG)]:
            for _ in range(6):
                thing = self.steps(draw, layout, boxes, draw.randint(0, 3))
                told = are_cases_by_hand(layout, boxes, limits, thing)
                self.assertIs(answer(bars.is_cases, layout, boxes, limits, thing), told)
                seen[told] += 1
        self.assertGreater(min(seen.values()), 30)

    def steps(self, draw, layout, boxes, deep):
        if deep == 0 or draw.random() < 0.2:
            return ()
        group = draw.choice(groups_by_hand(layout, boxes))
        width = draw.randint(0, final_of(layout))
        return (group, width, draw.choice((-1, 0, 0, 1, 2, 10 ** 9)), self.steps(draw, layout, boxes, deep - 1),
                self.steps(draw, layout, boxes, deep - 1))

    def test_things(self):
        near = (((0,), 1), ((1,), 1), ((2,), 1))
        for layout, boxes, limits, told in ((FIVE, TWO, SNUG, ((0,), 1, 0, (), ())), (THIRDS, (), near, ()),
                                            (THIRDS, ((0, 1),), near, ((0, 1), 1, 0, (), ((2,), 3, -5, (), ()))),
                                            (THIRDS, (), (), ()), (LONE, (), (((0,), 0),), ()),
                                            (POINT, (), (), ((0,), 0, 0, (), ()))):
            for thing in WRONG + spoiled(told) + [told]:
                by_hand = are_cases_by_hand(layout, boxes, limits, thing)
                self.assertIs(answer(bars.is_cases, layout, boxes, limits, thing), by_hand)

    def test_fallen_ones_need_their_form(self):
        near = (((0,), 1), ((1,), 1), ((2,), 1))
        for thing, told in ((((0,), 3, 7, (), ()), True), (((0,), 4, 7, (), ()), False), (((3,), 3, 7, (), ()), False),
                            (((0, 1), 3, 7, (), ()), False), (((0,), 3, True, (), ()), False),
                            (((0,), 3, 7, (), (1,)), False), (((False,), 3, 7, (), ()), False),
                            (((0,), 3, 7, [], ()), False), (((0,), False, 7, (), ()), False)):
            self.assertIs(answer(bars.is_cases, THIRDS, (), near, thing), told)

    def test_deep_things(self):
        near = (((0,), 1), ((1,), 1), ((2,), 1))
        thing = ()
        for _ in range(99):
            thing = ((0,), 1, 0, (), thing)
        self.assertIs(answer(bars.is_cases, THIRDS, (), near, thing), True)
        self.assertIs(answer(bars.is_cases, THIRDS, (), (), thing), False)

    def test_how_much_is_looked_through(self):
        final = 38
        four = (1, (tuple(range(final + 1)),) + ((0,) * (final + 1),) * 3)
        self.assertEqual(refusal(bars.cases, four, (), ()), TOO_MUCH)
        three = (1, four[1][:3])
        self.assertEqual(refusal(bars.cases, three, (), ()), CAN_NOT)
        self.assertEqual(refusal(bars.cases, three, ((0, 1),), (((0,), 0),)), TOO_MUCH)
        five = (2, ((0,) + (1,) * 30,) * 2 + (tuple(2 * width - 2 if width else 0 for width in range(31)),)
                + ((0,) * 31,) * 2)
        self.assertEqual(refusal(bars.cases, five, (), (((0,), 1),)), CAN_NOT)
        limits = (((0,), 1), ((1,), 1), ((2,), 1), ((3,), 0), ((4,), 0))
        self.assertEqual(refusal(bars.cases, five, (), limits), CAN_NOT)
        self.assertEqual(answer(bars.cases, five, (), (((0,), 0),) + limits[1:]), ())

    def test_unfit_first(self):
        for boxes, limits in (((), (((0, 1), 1),)), (((0, 1),), (((0, 1), 1), ((1, 2), 1))),
                              (((0, 1),), (((0, 1, 2), 0),))):
            self.assertEqual(refusal(bars.ranges, THIRDS, boxes, limits), UNFIT)
            self.assertEqual(refusal(bars.cases, THIRDS, boxes, limits), UNFIT)
            for thing in WRONG[:30]:
                self.assertEqual(refusal(bars.is_cases, THIRDS, boxes, limits, thing), UNFIT)
        long = (1, (tuple(range(41)),) + ((0,) * 41,) * 4)
        self.assertEqual(refusal(bars.cases, long, (), (((0, 1), 1),)), UNFIT)
        self.assertEqual(refusal(bars.cases, long, (), (((0,), 1),)), TOO_MUCH)

    def test_wider_layouts(self):
        draw = random.Random(156)
        seen = {True: 0, False: 0}
        for _ in range(60):
            panes = draw.randint(4, 8)
            boxes = boxes_by(draw, panes)
            layout = layout_by(draw, panes, draw.randint(4, 120 // (panes + len(boxes))), draw.randint(2, 6))
            limits = draw.choice((some_limits, close_limits))(draw, layout, boxes)
            try:
                told = bars.cases(layout, boxes, limits)
            except ValueError:
                self.assertEqual(refusal(bars.cases, layout, boxes, limits), CAN_NOT)
                self.assertIs(answer(bars.is_cases, layout, boxes, limits, ()), False)
                seen[False] += 1
                continue
            self.assertIs(answer(bars.is_cases, layout, boxes, limits, told), True)
            self.assertEqual(told, answer(bars.cases, layout, boxes, limits))
            seen[True] += 1
        self.assertGreater(min(seen.values()), 6)


class Barred(unittest.TestCase):
    def test_all_boxes(self):
        seen = 0
        for panes in range(2, 6):
            for boxes in all_boxes(panes):
                sides = {frozenset(own) for box in boxes for own in [self.side(panes, box)]
                         if 1 < len(box) < panes - 1}
                if len(sides) < 2:
                    self.assertEqual(refusal(bars.barred, panes, boxes), CAN_NOT)
                    continue
                seen += 1
                self.check(panes, boxes)
        self.assertGreater(seen, 50)

    def side(self, panes, box):
        return box if 0 not in box else tuple(pane for pane in range(panes) if pane not in box)

    def check(self, panes, boxes):
        layout = answer(bars.barred, panes, boxes)
        parts, rows = layout
        self.assertEqual(len(rows), panes)
        for row in rows:
            self.assertEqual((row[0], sorted(row)), (0, list(row)))
        self.assertEqual([sum(own) for own in zip(*rows)], [width * parts for width in range(len(rows[0]))])
        limits = tuple((group, parts - 1) for group in groups_by_hand(layout, boxes))
        self.assertEqual(stands_by_hand(layout, limits)[-1], set())

    def test_more_panes(self):
        draw = random.Random(157)
        for panes in (6, 7, 12):
            for boxes in (((0, 1), (2, 3)), ((0, 1), (0, 1, 2)), ((0, 1, 2), (3, 4, 5)), ((1, 2), (1, 2, 3, 4)),
                          tuple((0, *range(1, many)) for many in range(2, panes))):
                if not (panes == 6 and boxes == ((0, 1, 2), (3, 4, 5))):
                    self.check(panes, boxes)
            order = draw.sample(range(panes), panes)
            self.check(panes, tuple(sorted([tuple(sorted(order[:2])), tuple(sorted(order[2:5]))])))
        self.assertEqual(refusal(bars.barred, 6, ((0, 1, 2), (3, 4, 5))), CAN_NOT)
        self.assertEqual(refusal(bars.barred, 12, ((0, 1),)), CAN_NOT)
        self.assertEqual(refusal(bars.barred, 2, ()), CAN_NOT)
        self.assertEqual(refusal(bars.barred, 4, borders((1, ((0,),) * 4))), CAN_NOT)
        self.check(5, borders((1, ((0,),) * 5)))


class LowHigh(unittest.TestCase):
    PAIRS = [(low, high) for low in range(2, 6) for high in range(2, 8 - low)]

    def test_layouts_boxes_and_limits(self):
        for low, high in self.PAIRS:
            (parts, rows), boxes, limits = answer(bars.low_high, low, high)
            many = low + high - 1
            self.assertEqual(parts, 2 * low * high)
            self.assertEqual(boxes, tuple((2 * own, 2 * own + 1) for own in range(many)))
            told = {own: 2 * low * high - 1 for own in boxes}
            told.update({(pane,): 3 * low * high - low - high - 1 for pane in range(2 * many)})
            self.assertEqual(limits, tuple(sorted(told.items())))
            self.assertEqual(rows, self.rows_by_hand(low, high))

    def rows_by_hand(self, low, high):
        many = low + high - 1
        panes = [0] * (2 * many)
        columns = [tuple(panes)]
        for own in range(many):
            panes[2 * own] = low * high + high - low
            panes[2 * own + 1] = low * high - high + low
            columns.append(tuple(panes))
        for size, more in ((low, 2 * high), (high, 2 * low)):
            for numbers in sorted(own for own in groups_of(many) if len(own) == size):
                for _ in range(size):
                    for own in numbers:
                        panes[2 * own + 1] += more
                    columns.append(tuple(panes))
        return tuple(zip(*columns))

    def test_cases_of_all(self):
        for low, high in self.PAIRS:
            layout, boxes, limits = bars.low_high(low, high)
            told = answer(bars.low_high_cases, low, high)
            self.assertIs(answer(bars.is_cases, layout, boxes, limits, told), True)
            self.assertIs(answer(bars.is_cases, layout, boxes, limits, ()), False)
            looser = tuple((group, off + (len(group) == 1)) for group, off in limits)
            self.assertIs(answer(bars.is_cases, layout, boxes, looser, told), False)
        self.assertEqual(len({repr(bars.low_high_cases(low, high)) for low, high in self.PAIRS}), len(self.PAIRS))

    def test_cases_by_hand(self):
        layout, boxes, limits = bars.low_high(2, 2)
        self.assertTrue(are_cases_by_hand(layout, boxes, limits, bars.low_high_cases(2, 2)))
        told = answer(bars.cases, layout, boxes, limits)
        self.assertTrue(are_cases_by_hand(layout, boxes, limits, told))
        self.assertEqual(refusal(bars.cases, *bars.low_high(2, 3)), TOO_MUCH)

    def test_too_much(self):
        for low in range(2, 12):
            for high in range(max(2, 8 - low), 12):
                self.assertEqual(refusal(bars.low_high, low, high), TOO_MUCH)
                self.assertEqual(refusal(bars.low_high_cases, low, high), TOO_MUCH)
        self.assertEqual(refusal(bars.low_high, 10 ** 6, 10 ** 6), TOO_MUCH)


if __name__ == "__main__":
    unittest.main()
