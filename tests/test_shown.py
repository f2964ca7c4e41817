"""Section 8: shown tables, and the least trembling."""

import functools
import itertools
import random
import unittest

from stillpanes import shown
from tests.reckon import (CAN_NOT, FIVE, LONE, POINT, THIRDS, TOO_MUCH, WRONG, answer, drawings_to, final_of,
                          groups_of, in_drawing, layout_by, layouts_by, limits_by, near_numbers, refusal, spoiled,
                          sums_to, tiny_layouts, wide)

SMALL = layouts_by(60, 30, 3, 3, 4) + [THIRDS, LONE, POINT]
PANES = tuple(((pane,), 1) for pane in range(5))
BOTH = tuple(sorted(PANES + (((0, 1), 1), ((3, 4), 1))))
ROUGH = ((0, 1, 0, 1), (0, 0, 1, 1), (0, 0, 1, 1))
ALONE = (1, (tuple(range(41)), (0,) * 41, (0,) * 41))
SEARCHES = (shown.fewest_falls, shown.least_shown, shown.levels)
JUDGES = (shown.is_least_shown, shown.are_levels)


def is_shown_by_hand(layout, thing):
    if type(thing) is not tuple or len(thing) != len(layout[1]):
        return False
    return all(type(row) is tuple and len(row) == final_of(layout) + 1
               and all(type(own) is int and own >= 0 for own in row) for row in thing)


def keeps_there(layout, limits, stand, width):
    """Whether these numbers of pixels are off by at most what limits tell at width."""
    return all(abs(sum(stand[pane] for pane in group) * layout[0] - wide(layout, group, width)) <= off
               for group, off in limits)


@functools.lru_cache(None)
def stands_by_hand(layout, limits):
    """For each width all stands, by looking at all tuples."""
    panes = len(layout[1])
    return [[own for own in sums_to(panes, width) if keeps_there(layout, limits, own, width)]
            for width in range(final_of(layout) + 1)]


def falls_by_hand(stand, other):
    return sum(max(0, many - more) for many, more in zip(stand, other))


def falls_of(table):
    """The falls of a table, told by its columns."""
    return sum(falls_by_hand(low, high) for low, high in zip(table, table[1:]))


def fewest_by_hand(stands):
    """The fewest falls, by looking at all tables; None if there is none."""
    return min((falls_of(columns) for columns in itertools.product(*stands)), default=None)


def are_levels_by_hand(layout, limits, thing, fewest):
    """Whether thing are LEVELS with this least number at LAST, word by word."""
    stands = stands_by_hand(layout, limits)
    if type(thing) is not tuple or len(thing) != len(stands):
        return False
    for level, own in zip(thing, stands):
        if type(level) is not tuple:
            return False
        for pair in level:
            if type(pair) is not tuple or len(pair) != 2 or type(pair[0]) is not tuple or type(pair[1]) is not int:
                return False
            if any(type(many) is not int for many in pair[0]) or pair[1] < 0:
                return False
        if list(level) != sorted(set(level)) or sorted(pair[0] for pair in level) != sorted(own):
            return False
    if thing[0][0][1] != 0:
        return False
    for ahead, level in zip(thing, thing[1:]):
        for stand, number in level:
            if any(number > told + falls_by_hand(own, stand) for own, told in ahead):
                return False
    return min(number for _, number in thing[-1]) == fewest


def is_least_by_hand(layout, limits, thing, fewest):
    if not is_shown_by_hand(layout, thing):
        return False
    columns = list(zip(*thing))
    if any(sum(own) != width or not keeps_there(layout, limits, own, width) for width, own in enumerate(columns)):
        return False
    return falls_of(columns) == fewest


def some_tables(draw, layout, many):
    """Some SHOWN tables: near the exact widths, or with any small numbers."""
    made = []
    for _ in range(many):
        rows = []
        for row in layout[1]:
            near = [max(0, own // layout[0] + draw.choice((-1, 0, 0, 0, 1))) for own in row]
            rows.append(tuple(near if draw.random() < 0.7 else [draw.randrange(5) for _ in row]))
        made.append(tuple(rows))
    return made


class Things(unittest.TestCase):
    def test_is_shown(self):
        draw = random.Random(61)
        for layout in SMALL + [FIVE]:
            for table in some_tables(draw, layout, 5):
                self.assertIs(answer(shown.is_shown, layout, table), True)
        for layout in (LONE, THIRDS, POINT, FIVE):
            for thing in WRONG + spoiled(ROUGH) + spoiled(((0, 1, 2, 3),)) + spoiled(((0,), (5,), (0,))):
                self.assertIs(answer(shown.is_shown, layout, thing), is_shown_by_hand(layout, thing), thing)
        for thing in (ROUGH[:2], ROUGH + ROUGH[:1], list(ROUGH), ROUGH[:2] + ([0, 0, 1, 1],), ROUGH[:2] + ((0, 0, 1),),
                      ROUGH[:2] + ((0, 0, 1, True),), ROUGH[:2] + ((0, 0, 1, -1),), ROUGH[:2] + ("0011",)):
            self.assertIs(answer(shown.is_shown, THIRDS, thing), False, thing)
        self.assertIs(answer(shown.is_shown, THIRDS, ((9, 0, 10 ** 50, 3),) * 3), True)


class Trembling(unittest.TestCase):
    def test_by_hand(self):
        draw = random.Random(62)
        for layout in SMALL + layouts_by(63, 15, 5, 8, 4):
            for table in some_tables(draw, layout, 12):
                widths = range(final_of(layout) + 1)
                told = sorted((width, pane) for width in widths[1:] for pane, row in enumerate(table)
                              if row[width - 1] > row[width])
                self.assertEqual(answer(shown.trembles, table), tuple(told))
                self.assertEqual(answer(shown.first_tremble, table), told[0] if told else None)
                gaping = tuple(width for width in widths if sum(row[width] for row in table) != width)
                self.assertEqual(answer(shown.gapes, table), gaping)
                fallen = falls_of(list(zip(*table)))
                self.assertEqual(answer(shown.falls, table), fallen)
                if not gaping:
                    gains = sum(max(0, high - low) for row in table for low, high in zip(row, row[1:]))
                    self.assertEqual(gains, final_of(layout) + fallen)

    def test_edges(self):
        self.assertEqual(answer(shown.trembles, ((3,), (0,))), ())
        self.assertIsNone(answer(shown.first_tremble, ((3,), (0,))))
        self.assertEqual(answer(shown.gapes, ((3,), (0,))), (0,))
        self.assertEqual(answer(shown.gapes, ((0,), (0,))), ())
        self.assertEqual(answer(shown.falls, ((3,), (0,))), 0)
        self.assertEqual(answer(shown.trembles, ((5, 0), (5, 1), (0, 0))), ((1, 0), (1, 1)))
        self.assertEqual(answer(shown.falls, ((5, 0, 7), (5, 1, 0), (0, 0, 2))), 10)
        self.assertEqual(answer(shown.falls, ((10 ** 6, 0), (0, 10 ** 6))), 10 ** 6)


class Drawings(unittest.TestCase):
    def test_there_and_back(self):
        for layout in SMALL:
            panes = len(layout[1])
            for drawing in drawings_to(panes, final_of(layout)):
                table = answer(shown.shown_by, layout, drawing)
                told = tuple(tuple(in_drawing(drawing, (pane,), width) for width in range(final_of(layout) + 1))
                             for pane in range(panes))
                self.assertEqual(table, told)
                self.assertEqual(shown.trembles(table) + shown.gapes(table), ())
                self.assertEqual(answer(shown.drawing_of, layout, table), drawing)

    def test_other_tables(self):
        draw = random.Random(64)
        right = 0
        for layout in SMALL:
            tables = {shown.shown_by(layout, own): own
                      for own in drawings_to(len(layout[1]), final_of(layout))}
            for table in some_tables(draw, layout, 25):
                if table in tables:
                    right += 1
                    self.assertEqual(answer(shown.drawing_of, layout, table), tables[table])
                else:
                    self.assertEqual(refusal(shown.drawing_of, layout, table), CAN_NOT)
        self.assertGreater(right, 20)

    def test_tremble_or_gape_alone(self):
        self.assertEqual(refusal(shown.drawing_of, THIRDS, ROUGH), CAN_NOT)
        self.assertEqual(refusal(shown.drawing_of, THIRDS, ((0, 1, 0, 1), (0, 0, 2, 1), (0, 0, 0, 1))), CAN_NOT)
        self.assertEqual(refusal(shown.drawing_of, THIRDS, ((0, 1, 1, 1), (0, 0, 0, 1), (0, 0, 0, 1))), CAN_NOT)
        self.assertEqual(refusal(shown.drawing_of, POINT, ((1,), (0,), (0,))), CAN_NOT)
        self.assertEqual(answer(shown.drawing_of, POINT, ((0,), (0,), (0,))), ())

    def test_shown_keeps(self):
        draw = random.Random(65)
        seen = {True: 0, False: 0}
        for layout in SMALL + layouts_by(66, 15, 5, 6, 4):
            for table in some_tables(draw, layout, 8):
                limits = limits_by(draw, layout)
                told = all(keeps_there(layout, limits, own, width) for width, own in enumerate(zip(*table)))
                self.assertIs(answer(shown.shown_keeps, layout, table, limits), told)
                seen[told] += limits != ()
                self.assertIs(answer(shown.shown_keeps, layout, table, ()), True)
        self.assertGreater(min(seen.values()), 20)
        self.assertIs(answer(shown.shown_keeps, POINT, ((1,), (0,), (0,)), (((0,), 3),)), False)
        self.assertIs(answer(shown.shown_keeps, POINT, ((1,), (0,), (0,)), (((0,), 4),)), True)


class Fewest(unittest.TestCase):
    def check(self, layout, limits):
        """The last five functions, by looking at all tables; returns the fewest falls, None without."""
        stands = stands_by_hand(layout, limits)
        fewest = fewest_by_hand(stands)
        if fewest is None:
            for function in SEARCHES:
                self.assertEqual(refusal(function, layout, limits), CAN_NOT)
            for function in JUDGES:
                self.assertEqual(refusal(function, layout, limits, None), CAN_NOT)
            return None
        self.assertEqual(answer(shown.fewest_falls, layout, limits), fewest)
        table = answer(shown.least_shown, layout, limits)
        self.assertTrue(is_least_by_hand(layout, limits, table, fewest))
        self.assertIs(answer(shown.is_least_shown, layout, limits, table), True)
        told = answer(shown.levels, layout, limits)
        self.assertTrue(are_levels_by_hand(layout, limits, told, fewest))
        self.assertIs(answer(shown.are_levels, layout, limits, told), True)
        return fewest

    def test_all_tables(self):
        draw = random.Random(67)
        seen = {}
        for layout in SMALL + list(tiny_layouts(2, 3, 2)) + list(tiny_layouts(3, 2, 2)):
            for limits in [()] + [limits_by(draw, layout) for _ in range(4)]:
                fewest = self.check(layout, limits)
                seen[fewest] = seen.get(fewest, 0) + 1
                if fewest is not None:
                    kept = any(all(keeps_there(layout, limits, own, width)
                                   for width, own in enumerate(zip(*shown.shown_by(layout, drawing))))
                               for drawing in drawings_to(len(layout[1]), final_of(layout)))
                    self.assertIs(kept, fewest == 0)
        self.assertGreater(min(seen[None], seen[0]), 30)

    def test_some_that_fall(self):
        self.assertEqual(self.check_wide(FIVE, BOTH), 1)
        self.assertEqual(self.check_wide(FIVE, PANES), 0)
        seen = set()
        draw = random.Random(68)
        for panes in (3, 4) * 60:
            layout = layout_by(draw, panes, 4, 3)
            groups = [own for own in groups_of(panes) if len(own) == 1 or len(own) < panes and draw.random() < 0.7]
            limits = tuple((own, draw.choice((1, 2, 2, 3))) for own in groups)
            seen.add(self.check_wide(layout, limits))
        self.assertLessEqual({None, 0, 1}, seen)
        layout = (3, ((0, 0, 1, 2, 2), (0, 1, 3, 4, 6), (0, 1, 1, 1, 2), (0, 1, 1, 2, 2)))
        self.assertEqual(self.check_wide(layout, (((0, 2), 1), ((1, 2), 3), ((2, 3), 1))), 2)
        layout = (3, ((0, 0, 2, 4, 4), (0, 2, 2, 2, 3), (0, 1, 1, 1, 2), (0, 0, 1, 2, 3)))
        self.assertEqual(self.check_wide(layout, (((0, 1, 2), 1), ((0, 3), 2), ((2, 3), 1))), 2)

    def test_least_by_a_stand_that_falls(self):
        layout = (3, ((0, 2, 2, 2, 2, 2), (0, 0, 1, 1, 2, 4), (0, 1, 1, 1, 3, 3), (0, 0, 2, 5, 5, 6)))
        self.check_wide(layout, (((0, 1, 2), 3), ((1, 3), 2), ((2, 3), 1)))
        layout = (3, ((0, 0, 2, 2, 2, 2, 2, 2, 2, 2, 3), (0, 3, 4, 7, 7, 7, 7, 10, 13, 14, 14),
                      (0, 0, 0, 0, 3, 6, 9, 9, 9, 11, 13)))
        self.check_wide(layout, (((0, 1), 6), ((1, 2), 6)))
        layout = (4, ((0, 0, 3, 3, 4, 4, 4, 7, 11), (0, 4, 5, 9, 9, 10, 14, 14, 14), (0, 0, 0, 0, 3, 6, 6, 7, 7)))
        self.check_wide(layout, (((0,), 8), ((0, 1), 2)))

    def check_wide(self, layout, limits):
        """As check, by a way from stand to stand instead of all tables."""
        stands = stands_by_hand(layout, limits)
        if not all(stands):
            self.assertEqual(refusal(shown.fewest_falls, layout, limits), CAN_NOT)
            return None
        numbers = {stands[0][0]: 0}
        for own in stands[1:]:
            numbers = {stand: min(told + falls_by_hand(ahead, stand) for ahead, told in numbers.items())
                       for stand in own}
        fewest = min(numbers.values())
        self.assertEqual(answer(shown.fewest_falls, layout, limits), fewest)
        self.assertTrue(is_least_by_hand(layout, limits, answer(shown.least_shown, layout, limits), fewest))
        self.assertTrue(are_levels_by_hand(layout, limits, answer(shown.levels, layout, limits), fewest))
        return fewest

    def test_lone_panes_never_fall(self):
        for layout in layouts_by(70, 60, 4, 5, 5) + [FIVE, THIRDS, LONE, POINT]:
            limits = tuple(((pane,), layout[0] - 1) for pane in range(len(layout[1])))
            self.assertEqual(answer(shown.fewest_falls, layout, limits), 0)

    def test_less_is_never_more(self):
        draw = random.Random(71)
        for layout in SMALL + [FIVE] * 6:
            limits = BOTH if layout is FIVE else limits_by(draw, layout)
            if any(not own for own in stands_by_hand(layout, limits)):
                continue
            fewest = shown.fewest_falls(layout, limits)
            at = draw.randrange(len(limits) + 1)
            self.assertLessEqual(shown.fewest_falls(layout, limits[:at] + limits[at + 1:]), fewest)
            wider = tuple((group, off + draw.randrange(2)) for group, off in limits)
            self.assertLessEqual(shown.fewest_falls(layout, wider), fewest)

    def test_last_0(self):
        self.assertEqual(self.check(POINT, ()), 0)
        self.assertEqual(self.check(POINT, (((0,), 0), ((1, 2), 0))), 0)
        self.assertEqual(answer(shown.levels, POINT, ()), ((((0, 0, 0), 0),),))
        self.assertEqual(answer(shown.least_shown, POINT, ()), ((0,), (0,), (0,)))

    def test_one_pane(self):
        self.assertEqual(self.check(LONE, (((0,), 0),)), 0)
        self.assertEqual(answer(shown.least_shown, LONE, ()), ((0, 1, 2, 3),))


class Judges(unittest.TestCase):
    def test_wrong_things(self):
        layout, limits = (2, ((0, 1, 2, 3), (0, 1, 2, 3))), (((0,), 1),)
        table, told = ((0, 0, 1, 1), (0, 1, 1, 2)), shown.levels(layout, limits)
        right = 0
        for thing in WRONG + spoiled(table):
            expected = is_least_by_hand(layout, limits, thing, 0)
            right += expected
            self.assertIs(answer(shown.is_least_shown, layout, limits, thing), expected, thing)
        for thing in WRONG + spoiled(told):
            expected = are_levels_by_hand(layout, limits, thing, 0)
            right += expected
            self.assertIs(answer(shown.are_levels, layout, limits, thing), expected, thing)
        self.assertGreater(right, 0)
        self.assertIs(answer(shown.is_least_shown, layout, limits, list(table)), False)
        self.assertIs(answer(shown.are_levels, layout, limits, list(told)), False)

    def test_levels_of_five(self):
        told = shown.levels(FIVE, BOTH)
        for thing in spoiled(told):
            self.assertIs(shown.are_levels(FIVE, BOTH, thing), are_levels_by_hand(FIVE, BOTH, thing, 1))

    def test_other_levels(self):
        draw = random.Random(72)
        seen = {True: 0, False: 0}
        for layout, limits in [(FIVE, BOTH)] * 60 + [(own, limits_by(draw, own)) for own in SMALL for _ in range(6)]:
            stands = stands_by_hand(layout, limits)
            if not all(stands):
                continue
            fewest = shown.fewest_falls(layout, limits)
            thing = []
            for width, own in enumerate(stands):
                level = []
                for stand in own:
                    most = 0 if width == 0 else min(told + falls_by_hand(ahead, stand) for ahead, told in thing[-1])
                    level.append((stand, max(0, most - draw.choice((0, 0, 0, 0, 1, 2)) + (draw.random() < 0.02))))
                thing.append(tuple(level))
            thing = tuple(thing)
            told = are_levels_by_hand(layout, limits, thing, fewest)
            self.assertIs(answer(shown.are_levels, layout, limits, thing), told)
            seen[told] += 1
            ends = min(number for _, number in thing[-1])
            if are_levels_by_hand(layout, limits, thing, ends):
                self.assertLessEqual(ends, fewest)
        self.assertGreater(min(seen.values()), 10)

    def test_levels_just_at_and_above(self):
        layout = (1, ((0, 1, 1), (0, 0, 1)))
        limits = (((0,), 0),)
        right = ((((0, 0), 0),), (((1, 0), 0),), (((1, 1), 0),))
        self.assertEqual(answer(shown.levels, layout, limits), right)
        self.assertIs(answer(shown.are_levels, layout, limits, right), True)
        self.assertIs(answer(shown.are_levels, layout, limits, right[:2] + ((((1, 1), 1),),)), False)
        self.assertIs(answer(shown.are_levels, layout, limits, ((((0, 0), 1),),) + right[1:]), False)
        self.assertIs(answer(shown.are_levels, layout, limits, right[:1] + ((((True, 0), 0),),) + right[2:]), False)
        self.assertIs(answer(shown.are_levels, layout, limits, right[:1] + ((((1, 0), False),),) + right[2:]), False)
        self.assertIs(answer(shown.are_levels, layout, limits, right[:1] + ((((1, 0), -1),),) + right[2:]), False)
        self.assertIs(answer(shown.are_levels, layout, limits, right[:1] + (right[1] * 2,) + right[2:]), False)

    def test_too_low_levels(self):
        told = shown.levels(FIVE, BOTH)
        low = tuple(tuple((stand, 0) for stand, _ in level) for level in told)
        self.assertIs(answer(shown.are_levels, FIVE, BOTH, low), False)
        self.assertIs(answer(shown.are_levels, FIVE, BOTH, told), True)

    def test_more_falls_than_needed(self):
        table = ((0, 1, 0, 1), (0, 0, 2, 2))
        layout = (2, ((0, 1, 2, 3), (0, 1, 2, 3)))
        self.assertIs(answer(shown.is_least_shown, layout, (), table), False)
        self.assertIs(answer(shown.is_least_shown, layout, (), ((0, 1, 1, 1), (0, 0, 1, 2))), True)
        self.assertIs(answer(shown.is_least_shown, layout, (), ((0, 1, 1, 1), (0, 0, 1, 1))), False)
        self.assertIs(answer(shown.is_least_shown, layout, (((0,), 1),), ((0, 1, 2, 3), (0, 0, 0, 0))), False)


def count_there(layout, offs, width):
    """How many tuples of pixels, together the width, keep the offs of lone panes there."""
    ways = {0: 1}
    for pane in range(len(layout[1])):
        numbers = near_numbers(layout, (pane,), width, offs[(pane,)]) if (pane,) in offs else range(width + 1)
        more = {}
        for total, own in ways.items():
            for many in numbers:
                more[total + many] = more.get(total + many, 0) + own
        ways = more
    return ways.get(width, 0)


def outcome_of(layout, limits):
    """The name of the error class that fewest_falls raises, None if it raises none."""
    try:
        shown.fewest_falls(layout, limits)
    except ValueError as error:
        return type(error).__name__
    return None


class TooMuch(unittest.TestCase):
    # pane 0 has all: pane 1 and pane 2 may have up to what is told
    JUST = (((1,), 19), ((2,), 9))
    OVER = (((0,), 27), ((1,), 22), ((2,), 8))

    def test_just_enough(self):
        self.assertEqual(len([own for own in itertools.product(range(20), range(10))]), 200)
        self.assertEqual(len(answer(shown.levels, ALONE, self.JUST)[-1]), 200)
        self.assertEqual(answer(shown.fewest_falls, ALONE, self.JUST), 0)
        table = answer(shown.least_shown, ALONE, self.JUST)
        self.assertIs(answer(shown.is_least_shown, ALONE, self.JUST, table), True)
        self.assertIs(answer(shown.are_levels, ALONE, self.JUST, shown.levels(ALONE, self.JUST)), True)

    def test_one_more(self):
        pairs = [own for own in itertools.product(range(23), range(9)) if sum(own) <= 27]
        self.assertEqual(len(pairs), 201)
        self.refused(ALONE, self.OVER)
        one_less = (((0,), 26),) + self.OVER[1:]
        self.assertEqual(len(answer(shown.levels, ALONE, one_less)[-1]), len([own for own in pairs if sum(own) < 27]))

    def refused(self, layout, limits, error=TOO_MUCH):
        for function in SEARCHES:
            self.assertEqual(refusal(function, layout, limits), error)
        for function in JUDGES:
            for thing in (None, (), True, ROUGH, [(0, 1)], "levels"):
                self.assertEqual(refusal(function, layout, limits, thing), error)

    def test_lone_panes_alone_count(self):
        short = (1, tuple(row[:20] for row in ALONE[1]))
        self.refused(short, ())
        self.refused(short, (((0, 1), 0),))
        self.refused(short, (((0, 1), 0), ((0, 2), 0), ((1, 2), 0)))
        self.assertEqual(answer(shown.fewest_falls, (1, tuple(row[:19] for row in ALONE[1])), ()), 0)
        self.assertEqual(answer(shown.fewest_falls, short, (((0,), 5),)), 0)

    def test_ahead_of_can_not(self):
        rows = [tuple(range(20))] * 2 + [(0,) * 20]
        halves = (2, tuple(rows))
        self.refused(halves, (((0, 1, 2), 0), ((0, 2), 0)))
        self.refused((2, tuple(row[:19] for row in rows)), (((0, 1, 2), 0), ((0, 2), 0)), CAN_NOT)
        more = (2, tuple(rows) + ((0,) * 20, (0,) * 20))
        self.refused(more, (((0,), 0),))
        self.refused(more, (((0,), 0), ((1,), 0), ((2,), 0), ((3,), 0), ((4,), 0)), CAN_NOT)

    def test_no_stand(self):
        self.refused(THIRDS, (((0,), 1), ((1,), 1), ((2,), 1)), CAN_NOT)
        self.refused(THIRDS, (((0,), 0),), CAN_NOT)
        self.refused(THIRDS, (((0,), 2), ((0, 1), 0)), CAN_NOT)

    def test_exactly_above_200(self):
        draw = random.Random(73)
        seen = {True: 0, False: 0}
        for _ in range(400):
            panes = draw.randint(2, 5)
            layout = layout_by(draw, panes, draw.randint(2, 24), draw.randint(1, 3))
            limits = tuple(((pane,), draw.randint(0, 12)) for pane in range(panes) if draw.random() < 0.8)
            many = [count_there(layout, dict(limits), width) for width in range(final_of(layout) + 1)]
            error = outcome_of(layout, limits)
            self.assertEqual(error, "TooMuch" if max(many) > 200 else "CanNot" if min(many) == 0 else None)
            seen[max(many) > 200] += 1
        self.assertGreater(min(seen.values()), 50)

    def test_wherever_the_wide_pane_is(self):
        for panes in itertools.permutations([tuple(range(41)), (0,) * 41, (0,) * 41, (0,) * 41]):
            at = panes.index(tuple(range(41)))
            self.assertEqual(answer(shown.fewest_falls, (1, panes), (((at,), 2),)), 0)

    def test_too_much_at_twelve_panes(self):
        rows = (tuple(range(0, 41)),) * 12
        self.refused((12, rows), ())
        self.refused((12, rows), tuple(((pane,), 10 ** 9) for pane in range(12)))
        self.assertEqual(answer(shown.fewest_falls, (1, (tuple(range(41)),) + ((0,) * 41,) * 11),
                                tuple(((pane,), 0) for pane in range(12))), 0)


if __name__ == "__main__":
    unittest.main()
