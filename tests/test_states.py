"""Section 16: states."""

import itertools
import random
import unittest

from stillpanes import states
from tests.reckon import (CAN_NOT, FIVE, LONE, POINT, THIRDS, TOO_MUCH, WRONG, answer, capped, drawings_to, final_of,
                          groups_of, is_kept, layout_by, layouts_by, no_place, off_in, refusal, some_limits, spoiled)

SMALL = layouts_by(140, 40, 4, 5, 5) + [THIRDS, LONE, POINT]
PANES = tuple(((pane,), 1) for pane in range(5))
WEST = tuple(sorted(PANES + (((0, 1), 1),)))
BOTH = tuple(sorted(WEST + (((3, 4), 1),)))


def state_of(layout, drawing):
    return tuple(drawing.count(pane) for pane in range(len(layout[1])))


def table_by_hand(layout, limits):
    """The TABLE, by looking at all rows of panes that keep limits so far."""
    rows = [()]
    found = [((0,) * len(layout[1]),)]
    while found[-1] and len(found) <= final_of(layout):
        rows = [row + (pane,) for row in rows for pane in range(len(layout[1]))]
        rows = [row for row in rows if is_kept(layout, row, limits)]
        found.append(tuple(sorted({state_of(layout, row) for row in rows})))
    return tuple(found)


class ByAllDrawings(unittest.TestCase):
    def test_states_and_tables(self):
        draw = random.Random(141)
        ends = set()
        for layout in SMALL * 2:
            limits = some_limits(draw, layout)
            table = table_by_hand(layout, limits)
            ends.add(bool(table[-1]))
            self.assertEqual(answer(states.table, layout, limits), table)
            self.assertIs(answer(states.is_table, layout, limits, table), True)
            falls = None if table[-1] else len(table) - 1
            self.assertEqual(answer(states.falls_at, layout, limits), falls)
            for width in range(final_of(layout) + 1):
                told = table[width] if width < len(table) else ()
                self.assertEqual(answer(states.states, layout, limits, width), told)
        self.assertEqual(ends, {True, False})

    def test_drawings(self):
        draw = random.Random(142)
        seen = {True: 0, False: 0}
        for layout in SMALL * 2:
            limits = some_limits(draw, layout)
            drawings = drawings_to(len(layout[1]), final_of(layout))
            kept = [own for own in drawings if is_kept(layout, own, limits)]
            seen[bool(kept)] += 1
            self.assertEqual(answer(states.how_many_drawings, layout, limits), len(kept))
            self.assertIs(answer(states.falls_at, layout, limits) is None, bool(kept))
            self.check_search(layout, limits, kept)
            for number, own in enumerate(kept):
                if number < 20 or number > len(kept) - 5:
                    self.assertEqual(answer(states.drawing_at, layout, limits, number), own)
                    self.assertEqual(answer(states.drawing_number, layout, limits, own), number)
            for number in (-1, -len(kept), len(kept), len(kept) + 1, 10 ** 12, -10 ** 12):
                if not 0 <= number < len(kept):
                    self.assertEqual(refusal(states.drawing_at, layout, limits, number), CAN_NOT)
            for own in draw.sample(drawings, min(8, len(drawings))):
                if own not in kept:
                    self.assertEqual(refusal(states.drawing_number, layout, limits, own), CAN_NOT)
        self.assertGreater(min(seen.values()), 6)

    def check_search(self, layout, limits, kept):
        if kept:
            self.assertIn(answer(states.some_drawing, layout, limits), kept)
            self.assertEqual(answer(states.least_drawing, layout, limits), kept[0])
            return
        self.assertEqual(refusal(states.some_drawing, layout, limits), CAN_NOT)
        self.assertEqual(refusal(states.least_drawing, layout, limits), CAN_NOT)

    def test_least_off(self):
        draw = random.Random(143)
        for layout in SMALL * 2:
            limits = some_limits(draw, layout)
            every = groups_of(len(layout[1]))
            groups = tuple(sorted(draw.sample(every, draw.randint(1, min(4, len(every))))))
            offs = {own: max(off_in(layout, own, group) for group in groups)
                    for own in drawings_to(len(layout[1]), final_of(layout)) if is_kept(layout, own, limits)}
            if not offs:
                self.assertEqual(refusal(states.least_off, layout, limits, groups), CAN_NOT)
                self.assertEqual(refusal(states.drawing_of_least, layout, limits, groups), CAN_NOT)
                continue
            least = min(offs.values())
            self.assertEqual(answer(states.least_off, layout, limits, groups), least)
            self.assertEqual(offs[answer(states.drawing_of_least, layout, limits, groups)], least)

    def test_least_off_never_falls(self):
        draw = random.Random(144)
        for layout in SMALL[:30]:
            every = groups_of(len(layout[1]))
            for group, other in itertools.product(every[:3], every[-2:]):
                alone = states.least_off(layout, (), (group,))
                both = states.least_off(layout, (), tuple(sorted({group, other})))
                self.assertGreaterEqual(both, alone)
                off = draw.randint(alone, 3 * layout[0])
                limits = ((other, off),)
                if states.falls_at(layout, limits) is None:
                    self.assertGreaterEqual(states.least_off(layout, limits, (group,)), alone)

    def test_groups_that_limits_tell(self):
        limits = (((0,), 9), ((1,), 2))
        self.assertEqual(answer(states.least_off, THIRDS, limits, ((0,),)), 1)
        drawing = answer(states.drawing_of_least, THIRDS, limits, ((0,), (1,)))
        self.assertEqual(answer(states.least_off, THIRDS, limits, ((0,), (1,))), 2)
        self.assertLessEqual(max(off_in(THIRDS, drawing, (0,)), off_in(THIRDS, drawing, (1,))), 2)
        close = (((0,), 1),)
        drawing = answer(states.drawing_of_least, THIRDS, close, ((0,), (1,), (2,)))
        self.assertLessEqual(off_in(THIRDS, drawing, (0,)), 1)
        self.assertEqual(answer(states.least_off, THIRDS, close, ((0,), (1,), (2,))), 2)

    def test_a_state_leads_to_the_next_ones(self):
        for limits in (PANES, WEST, BOTH, ()):
            table = answer(states.table, FIVE, limits) if limits else answer(states.table, FIVE, (((0, 1), 2),))
            for stage, behind in zip(table, table[1:]):
                for own in behind:
                    less = [own[:pane] + (own[pane] - 1,) + own[pane + 1:] for pane in range(5)]
                    self.assertTrue(any(it in stage for it in less))


class Edges(unittest.TestCase):
    def test_last_0_and_one_pane(self):
        for limits in ((), (((0,), 0),), (((0, 1, 2), 0), ((1,), 10 ** 9))):
            self.assertEqual(answer(states.table, POINT, limits), (((0, 0, 0),),))
            self.assertIsNone(answer(states.falls_at, POINT, limits))
            self.assertEqual(answer(states.how_many_drawings, POINT, limits), 1)
            self.assertEqual(answer(states.drawing_at, POINT, limits, 0), ())
            self.assertEqual(answer(states.drawing_number, POINT, limits, ()), 0)
            self.assertEqual(answer(states.least_drawing, POINT, limits), ())
            self.assertEqual(answer(states.least_off, POINT, limits, ((0,), (0, 1))), 0)
            self.assertEqual(refusal(states.drawing_at, POINT, limits, 1), CAN_NOT)
        self.assertEqual(answer(states.table, LONE, (((0,), 0),)), (((0,),), ((1,),), ((2,),), ((3,),)))
        self.assertEqual(answer(states.drawing_of_least, LONE, (), ((0,),)), (0, 0, 0))

    def test_falls_at_once(self):
        close = (((0,), 0), ((1,), 0))
        self.assertEqual(answer(states.table, THIRDS, close), (((0, 0, 0),), ()))
        self.assertEqual(answer(states.states, THIRDS, close, 0), ((0, 0, 0),))
        for width in (1, 2, 3):
            self.assertEqual(answer(states.states, THIRDS, close, width), ())
        self.assertEqual(answer(states.how_many_drawings, THIRDS, close), 0)
        self.assertEqual(refusal(states.drawing_at, THIRDS, close, 0), CAN_NOT)
        self.assertEqual(refusal(states.drawing_number, THIRDS, close, (0, 1, 2)), CAN_NOT)

    def test_falls_at_the_last(self):
        table = answer(states.table, FIVE, BOTH)
        self.assertEqual([len(stage) for stage in table][-2:], [1, 0])
        self.assertEqual(answer(states.falls_at, FIVE, BOTH), 6)
        self.assertIs(answer(states.is_table, FIVE, BOTH, table[:-1]), False)
        self.assertIs(answer(states.is_table, FIVE, BOTH, table + ((),)), False)

    def test_is_table(self):
        for layout, limits in ((THIRDS, ()), (THIRDS, (((0,), 1), ((1,), 1), ((2,), 1))), (POINT, ()), (FIVE, BOTH),
                               (LONE, (((0,), 0),))):
            table = states.table(layout, limits)
            things = WRONG + (spoiled(table) if layout != THIRDS or limits else spoiled(table)[::7])
            things += [tuple(map(list, table)), list(table), tuple(tuple(map(list, own)) for own in table),
                       tuple(tuple(tuple(map(bool, it)) for it in own) for own in table)]
            for thing in things:
                self.assertIs(answer(states.is_table, layout, limits, thing), repr(thing) == repr(table))


class TooMuch(unittest.TestCase):
    # so many STATES at the widths 12, 13: 3,338 and 4,001; never more than 4,000
    MORE, MOST = (1, 7, 12, 12, 12), (9, 9, 7, 4)

    def test_at_and_above_the_bound(self):
        layout, limits = capped(self.MOST, 30)
        table = answer(states.table, layout, limits)
        self.assertEqual(max(map(len, table)), 4000)
        self.assertIsNone(answer(states.falls_at, layout, limits))
        layout, limits = capped(self.MORE, 13)
        stage = answer(states.states, layout, limits, 12)
        by_hand = [own for own in itertools.product(*[range(cap + 1) for cap in self.MORE]) if sum(own) <= 12]
        self.assertEqual([own[:-1] for own in stage], by_hand)
        self.assertEqual(len([own for own in itertools.product(*[range(cap + 1) for cap in self.MORE])
                              if sum(own) <= 13]), 4001)
        self.assertEqual(refusal(states.states, layout, limits, 13), TOO_MUCH)
        short, _ = capped(self.MORE, 12)
        self.assertIsNone(answer(states.falls_at, short, limits))
        for thing in WRONG[:20]:
            self.assertEqual(refusal(states.is_table, layout, limits, thing), TOO_MUCH)

    def test_each_function(self):
        layout, limits = capped(self.MORE, 14)
        for function in (states.falls_at, states.some_drawing, states.least_drawing, states.how_many_drawings,
                         states.table):
            self.assertEqual(refusal(function, layout, limits), TOO_MUCH)
        for number in (-1, 0, 10 ** 30):
            self.assertEqual(refusal(states.drawing_at, layout, limits, number), TOO_MUCH)
        for drawing in ((5,) * 14, (0,) * 14):
            self.assertEqual(refusal(states.drawing_number, layout, limits, drawing), TOO_MUCH)
        for groups in (((0,),), ((0, 1, 2, 3, 4), (5,))):
            self.assertEqual(refusal(states.least_off, layout, limits, groups), TOO_MUCH)
            self.assertEqual(refusal(states.drawing_of_least, layout, limits, groups), TOO_MUCH)

    def test_behind_no_place(self):
        layout, limits = capped(self.MORE, 14)
        for place in (-1, 15, -15, 10 ** 6):
            self.assertEqual(refusal(states.states, layout, limits, place), no_place(place))

    def test_not_behind_the_fall(self):
        # the TABLE ends at 1, however many STATES there would be without that
        layout, limits = capped(self.MORE, 14)
        near = tuple(sorted(limits + (((0, 5), 0), ((1, 5), 0), ((0, 1), 0))))
        rows = list(layout[1])
        rows[0] = tuple(min(1, width) for width in range(15))
        rows[5] = tuple(own - less for own, less in zip(rows[5], rows[0]))
        layout = (layout[0], tuple(rows))
        self.assertEqual(answer(states.falls_at, layout, near), 1)
        self.assertEqual(refusal(states.least_off, layout, near, ((0,),)), CAN_NOT)
        self.assertEqual(answer(states.how_many_drawings, layout, near), 0)

    def test_groups_do_not_matter(self):
        layout, limits = capped(self.MOST, 8)
        drawing = answer(states.drawing_of_least, layout, limits, tuple((pane,) for pane in range(5)))
        self.assertEqual(drawing, (4,) * 8)
        self.assertEqual(answer(states.least_off, layout, limits, ((0, 1),)), 0)


class Wide(unittest.TestCase):
    def test_numbers_lead_back(self):
        draw = random.Random(145)
        seen = 0
        for _ in range(25):
            layout = layout_by(draw, draw.randint(3, 6), draw.randint(6, 12), draw.randint(2, 6))
            limits = tuple(((pane,), layout[0] - 1 + draw.randint(0, 1)) for pane in range(len(layout[1])))
            many = answer(states.how_many_drawings, layout, limits)
            seen = max(seen, many)
            self.assertGreater(many, 0)
            ahead = None
            for number in sorted({0, many - 1, *[draw.randrange(many) for _ in range(4)]}):
                drawing = answer(states.drawing_at, layout, limits, number)
                self.assertTrue(is_kept(layout, drawing, limits))
                self.assertEqual(answer(states.drawing_number, layout, limits, drawing), number)
                self.assertTrue(ahead is None or ahead < drawing)
                ahead = drawing
            self.assertEqual(refusal(states.drawing_at, layout, limits, many), CAN_NOT)
        self.assertGreater(seen, 50)


if __name__ == "__main__":
    unittest.main()
