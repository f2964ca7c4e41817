"""Section 18: roundings that people use."""

import itertools
import math
import random
import unittest
from fractions import Fraction

from stillpanes import people, rules
from stillpanes.boxes import is_boxes
from tests.reckon import (FIVE, LONE, POINT, THIRDS, TOO_MUCH, UNFIT, all_boxes, answer, boxes_by, final_of, groups_of,
                          layout_by, layouts_by, refusal, sums_to, tiny_layouts, wide)

DRAWN = layouts_by(180, 120, 6, 12, 9) + [THIRDS, FIVE, LONE, POINT]
WAYS = ("borders", "running", "floors")
NESTS = (2, ((0, 1, 1), (0, 1, 1), (0, 0, 2)))


# a reckoning of the tests' own, by fractions


def fraction(layout, group, width):
    return Fraction(wide(layout, group, width), layout[0])


def nearest(number):
    """The nearest whole number, the greater one of two as near."""
    low = math.floor(number)
    return low if number - low < Fraction(1, 2) else low + 1


def by_places(layout, rounded):
    """The table with each border rounded so, a pane between its borders."""
    panes = len(layout[1])
    rows = []
    for pane in range(panes):
        left, right = tuple(range(pane)), tuple(range(pane + 1))
        rows.append(tuple(rounded(fraction(layout, right, width)) - rounded(fraction(layout, left, width))
                          for width in range(final_of(layout) + 1)))
    return tuple(rows)


def shared_by_hand(many, wides):
    """What each thing gets, by looking for the greatest rest again and again."""
    total = sum(wides)
    if not total:
        return [0] * len(wides)
    quotas = [Fraction(many * own, total) for own in wides]
    told = [math.floor(own) for own in quotas]
    rests = [own - low for own, low in zip(quotas, told)]
    while sum(told) < many:
        at = rests.index(max(rests))
        told[at] += 1
        rests[at] = -1
    return told


def floors_by_hand(layout):
    panes = range(len(layout[1]))
    columns = [shared_by_hand(width, [wide(layout, (pane,), width) for pane in panes])
               for width in range(final_of(layout) + 1)]
    return tuple(tuple(column[pane] for column in columns) for pane in panes)


def nested(layout, boxes, panes, many, width):
    """A dict with the pixels of each of these panes, which have many together."""
    inner = [own for own in boxes if set(own) < set(panes)]
    tops = [own for own in inner if not any(set(own) < set(other) for other in inner)]
    tops += [(pane,) for pane in panes if not any(pane in own for own in tops)]
    told = {}
    tops.sort()
    for own, got in zip(tops, shared_by_hand(many, [wide(layout, own, width) for own in tops])):
        told.update({own[0]: got} if len(own) == 1 else nested(layout, boxes, own, got, width))
    return told


def nests_by_hand(layout, boxes):
    panes = range(len(layout[1]))
    columns = [nested(layout, boxes, tuple(panes), width, width) for width in range(final_of(layout) + 1)]
    return tuple(tuple(column[pane] for column in columns) for pane in panes)


def table_by_hand(layout, way):
    if way == "floors":
        return floors_by_hand(layout)
    return by_places(layout, nearest if way == "borders" else math.floor)


def troubles_by_hand(layout, shown, off):
    found = set()
    for width in range(final_of(layout) + 1):
        if sum(row[width] for row in shown) != width:
            found.add((width, "gapes", 0))
        for pane, row in enumerate(shown):
            if abs(row[width] * layout[0] - layout[1][pane][width]) > off:
                found.add((width, "off", pane))
            if width and row[width] < row[width - 1]:
                found.add((width, "trembles", pane))
    return tuple(sorted(found))


def depth_by_hand(boxes, group):
    return 1 + sum(set(group) < set(own) for own in boxes)


def column_sums(shown):
    return [sum(own) for own in zip(*shown)]


def tables_of(layout):
    return [answer(people.shown_as, layout, way) for way in WAYS]


def shown_by_draw(draw, layout):
    """Any table: near one, far ones, that gape and tremble."""
    shown = [list(row) for row in floors_by_hand(layout)]
    for _ in range(draw.randint(0, 6)):
        row = draw.choice(shown)
        at = draw.randrange(len(row))
        row[at] = max(0, row[at] + draw.choice((-1, 1, 1, 3)))
    return tuple(map(tuple, shown))


class Roundings(unittest.TestCase):
    def test_by_hand(self):
        for layout in DRAWN + list(tiny_layouts(3, 2, 4)):
            self.assertEqual(answer(people.by_borders, layout), table_by_hand(layout, "borders"))
            self.assertEqual(answer(people.by_running, layout), table_by_hand(layout, "running"))
            self.assertEqual(answer(people.by_floors, layout), table_by_hand(layout, "floors"))
            for way in WAYS:
                self.assertEqual(answer(people.shown_as, layout, way), table_by_hand(layout, way))

    def test_halves_go_up(self):
        # the border behind the first pane lies at 1/2, 1, 3/2, 2
        halves = (2, ((0, 1, 2, 3, 4), (0, 1, 2, 3, 4)))
        self.assertEqual(answer(people.by_borders, halves), ((0, 1, 1, 2, 2), (0, 0, 1, 1, 2)))
        self.assertEqual(answer(people.by_running, halves), ((0, 0, 1, 1, 2), (0, 1, 1, 2, 2)))
        # of equal rests the first
        self.assertEqual(answer(people.by_floors, halves), ((0, 1, 1, 2, 2), (0, 0, 1, 1, 2)))

    def test_guarantees(self):
        for layout in DRAWN:
            parts = layout[0]
            for way, shown in zip(WAYS, tables_of(layout)):
                self.assertEqual(column_sums(shown), list(range(final_of(layout) + 1)))
                groups = [(pane,) for pane in range(len(shown))]
                if way != "floors":
                    groups += [tuple(range(many)) for many in range(1, len(shown))]
                for group in groups:
                    for width in range(final_of(layout) + 1):
                        many = sum(shown[pane][width] for pane in group)
                        self.assertLess(abs(many * parts - wide(layout, group, width)), parts)

    def test_two_panes_never_tremble(self):
        for layout in list(tiny_layouts(2, 4, 5)) + list(tiny_layouts(2, 6, 2)):
            for shown in tables_of(layout):
                for row in shown:
                    self.assertEqual(list(row), sorted(row))

    def test_other_words(self):
        for way in ("", "border", "Borders", "nests", "floors ", "nearest", "borders running"):
            self.assertEqual(refusal(people.shown_as, THIRDS, way), UNFIT)
            self.assertEqual(refusal(people.trembling_shares, way, 3, 5, 12), UNFIT)
            # ahead of TooMuch()
            self.assertEqual(refusal(people.trembling_shares, way, 3, 900, 12), UNFIT)

    def test_edges(self):
        for way in WAYS:
            self.assertEqual(answer(people.shown_as, POINT, way), ((0,), (0,), (0,)))
            self.assertEqual(answer(people.shown_as, LONE, way), ((0, 1, 2, 3),))
        self.assertEqual(answer(people.by_nests, POINT, ()), ((0,), (0,), (0,)))
        self.assertEqual(answer(people.by_nests, POINT, ((0, 1),)), ((0,), (0,), (0,)))
        self.assertEqual(answer(people.by_nests, LONE, ()), ((0, 1, 2, 3),))

    def test_wide_numbers(self):
        draw = random.Random(181)
        for _ in range(10):
            layout = layout_by(draw, 12, 40, 10 ** 6)
            for way in WAYS:
                self.assertEqual(answer(people.shown_as, layout, way), table_by_hand(layout, way))
            boxes = ((0, 1), (0, 1, 2, 3), (4, 7), (5, 6, 8))
            self.assertTrue(is_boxes(layout, boxes))
            self.assertEqual(answer(people.by_nests, layout, boxes), nests_by_hand(layout, boxes))


class Nests(unittest.TestCase):
    def test_by_hand(self):
        draw = random.Random(182)
        for layout in DRAWN:
            for boxes in ((), boxes_by(draw, len(layout[1])), boxes_by(draw, len(layout[1]))):
                self.check(layout, boxes)

    def test_all_boxes(self):
        for boxes in all_boxes(4):
            for layout in layouts_by(183, 6, 4, 7, 6):
                if len(layout[1]) == 4:
                    self.check(layout, boxes)
        for boxes in all_boxes(5)[::3]:
            self.check(FIVE, boxes)

    def check(self, layout, boxes):
        told = answer(people.by_nests, layout, boxes)
        self.assertEqual(told, nests_by_hand(layout, boxes))
        self.assertEqual(column_sums(told), list(range(final_of(layout) + 1)))
        for group in boxes + tuple((pane,) for pane in range(len(told))):
            depth = depth_by_hand(boxes, group)
            for width in range(final_of(layout) + 1):
                many = sum(told[pane][width] for pane in group)
                self.assertLess(abs(many * layout[0] - wide(layout, group, width)), depth * layout[0])

    def test_without_boxes_by_floors(self):
        for layout in DRAWN:
            self.assertEqual(answer(people.by_nests, layout, ()), answer(people.by_floors, layout))

    def test_things_in_order(self):
        # by 1/2 each the box (0, 2) comes ahead of pane 1, pane 0 ahead of pane 2
        layout = (4, ((0, 1), (0, 2), (0, 1)))
        self.assertEqual(answer(people.by_nests, layout, ((0, 2),)), ((0, 1), (0, 0), (0, 0)))
        # (1, 2) comes behind pane 0
        layout = (4, ((0, 2), (0, 1), (0, 1)))
        self.assertEqual(answer(people.by_nests, layout, ((1, 2),)), ((0, 1), (0, 0), (0, 0)))

    def test_two_panes_never_tremble(self):
        for layout in tiny_layouts(2, 4, 4):
            for row in answer(people.by_nests, layout, ()):
                self.assertEqual(list(row), sorted(row))

    def test_a_box_without_width(self):
        layout = (2, ((0, 0, 0), (0, 0, 0), (0, 2, 4)))
        self.assertEqual(answer(people.by_nests, layout, ((0, 1),)), ((0, 0, 0), (0, 0, 0), (0, 1, 2)))


class Troubles(unittest.TestCase):
    def test_by_hand(self):
        draw = random.Random(184)
        words = set()
        for layout in DRAWN:
            for shown in tables_of(layout) + [shown_by_draw(draw, layout) for _ in range(3)]:
                worst = max(abs(many * layout[0] - layout[1][pane][width]) for pane, row in enumerate(shown)
                            for width, many in enumerate(row))
                self.assertEqual(answer(people.worst_off, layout, shown), worst)
                for off in sorted({0, layout[0] // 2, max(0, worst - 1), worst, worst + 1, 10 ** 9}):
                    told = troubles_by_hand(layout, shown, off)
                    words.update(own[1] for own in told)
                    self.assertEqual(answer(people.troubles, layout, shown, off), told)
                    self.assertEqual(answer(people.first_trouble, layout, shown, off), told[0] if told else None)
                    self.assertIs(any(own[1] == "off" for own in told), off < worst)
        self.assertEqual(words, {"gapes", "off", "trembles"})

    def test_falls_and_quiet(self):
        draw = random.Random(185)
        seen = set()
        for layout in DRAWN:
            for shown in tables_of(layout) + [shown_by_draw(draw, layout) for _ in range(3)]:
                lost = [(width, row[width - 1] - row[width]) for row in shown for width in range(1, len(row))
                        if row[width] < row[width - 1]]
                self.assertEqual(answer(people.falls_in_all, shown), sum(many for _, many in lost))
                quiet = min([width - 1 for width, _ in lost], default=final_of(layout))
                self.assertEqual(answer(people.quiet_to, shown), quiet)
                seen.add(bool(lost))
        self.assertEqual(seen, {True, False})

    def test_something_at_0(self):
        shown = ((1, 1, 2), (0, 0, 0))
        layout = (2, ((0, 1, 2), (0, 1, 2)))
        self.assertEqual(answer(people.troubles, layout, shown, 1), ((0, "gapes", 0), (0, "off", 0), (2, "off", 0),
                                                                    (2, "off", 1)))
        self.assertEqual(answer(people.worst_off, layout, shown), 2)

    def test_edges(self):
        self.assertEqual(answer(people.troubles, POINT, ((0,), (0,), (0,)), 0), ())
        self.assertEqual(answer(people.worst_off, POINT, ((0,), (0,), (0,))), 0)
        self.assertEqual(answer(people.worst_off, POINT, ((0,), (10 ** 6,), (0,))), 4 * 10 ** 6)
        self.assertEqual(answer(people.quiet_to, ((0,),)), 0)
        self.assertEqual(answer(people.quiet_to, ((1, 0),)), 0)
        self.assertEqual(answer(people.falls_in_all, ((10 ** 6, 0, 7), (0, 0, 0))), 10 ** 6)
        self.assertIsNone(answer(people.first_trouble, LONE, ((0, 1, 2, 3),), 0))


class Shares(unittest.TestCase):
    def trembling(self, way, panes, total, final):
        """The told list, by looking at each tuple."""
        found = []
        for shares in sums_to(panes, total):
            if 0 in shares:
                continue
            layout = (total, tuple(tuple(width * own for width in range(final + 1)) for own in shares))
            if any(list(row) != sorted(row) for row in table_by_hand(layout, way)):
                found.append(shares)
        return found

    def test_by_hand(self):
        some = 0
        for way in WAYS:
            for panes, total, final in ((1, 1, 5), (1, 9, 5), (2, 7, 30), (3, 3, 9), (3, 6, 12), (3, 7, 12), (4, 6, 10),
                                        (3, 4, 1), (3, 4, 2), (5, 7, 14), (4, 3, 5), (2, 1, 5)):
                told = answer(people.trembling_shares, way, panes, total, final)
                self.assertEqual(told, self.trembling(way, panes, total, final))
                some += bool(told)
        self.assertGreater(some, 8)

    def test_at_and_above_the_bound(self):
        for panes, most in ((2, 501), (3, 33), (4, 16), (9, 13), (12, 15)):
            many = math.comb(most - 1, panes - 1)
            self.assertLessEqual(many, 500)
            self.assertGreater(math.comb(most, panes - 1), 500)
            for way in WAYS:
                answer(people.trembling_shares, way, panes, most, 3)
                self.assertEqual(refusal(people.trembling_shares, way, panes, most + 1, 3), TOO_MUCH)
        self.assertEqual(math.comb(500, 1), 500)
        self.assertEqual(refusal(people.trembling_shares, "floors", 12, 1000, 40), TOO_MUCH)
        self.assertEqual(answer(people.trembling_shares, "floors", 1, 1000, 40), [])
        self.assertEqual(answer(people.trembling_shares, "running", 12, 11, 40), [])

    def test_two_panes_never_tremble(self):
        for way in WAYS:
            for total in range(1, 40):
                self.assertEqual(answer(people.trembling_shares, way, 2, total, 40), [])

    def test_by_rules(self):
        # what is told trembles as by_shares lays it out
        for way, panes, total, final in (("running", 3, 5, 12), ("floors", 3, 7, 12), ("borders", 4, 6, 20)):
            told = answer(people.trembling_shares, way, panes, total, final)
            for shares in told:
                shown = people.shown_as(rules.by_shares(shares, final), way)
                self.assertLess(people.quiet_to(shown), final)
                self.assertGreater(people.falls_in_all(shown), 0)
            self.assertEqual(told, sorted(set(told)))

    def test_alabama(self):
        shown = people.by_floors(rules.by_shares((1, 3, 3), 4))
        self.assertEqual(shown[0][3:], (1, 0))
        self.assertEqual(answer(people.first_trouble, rules.by_shares((1, 3, 3), 4), shown, 6), (4, "trembles", 0))


class Words(unittest.TestCase):
    def test_groups_of_the_tests(self):
        self.assertEqual([depth_by_hand(((0, 1), (0, 1, 2)), own) for own in groups_of(3)], [3, 2, 1, 2, 3, 2, 2])
        self.assertEqual(shared_by_hand(4, [1, 3, 3]), [0, 2, 2])
        self.assertEqual(shared_by_hand(3, [1, 3, 3]), [1, 1, 1])
        numbers = (Fraction(1, 2), Fraction(3, 2), Fraction(1, 3), Fraction(2))
        self.assertEqual(list(map(nearest, numbers)), [1, 2, 0, 2])
        self.assertEqual(nests_by_hand(NESTS, ((0, 1),)), ((0, 1, 1), (0, 0, 0), (0, 0, 1)))
        self.assertEqual(len(list(itertools.islice(tiny_layouts(2, 1, 3), 9))), 4)


if __name__ == "__main__":
    unittest.main()
