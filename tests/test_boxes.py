"""Section 6: boxes."""

import random
import unittest

from stillpanes import boxes
from stillpanes.layouts import is_split
from stillpanes.rules import even
from tests.reckon import (CAN_NOT, FIVE, LONE, POINT, THIRDS, UNFIT, WRONG, all_boxes, answer, boxes_by, groups_of,
                          is_laminar, no_place, refusal, spoiled)

NEST = ((0, 1), (0, 1, 2), (3, 4))


def window(panes):
    return even(panes, 2)


def cases():
    """Pairs (number of panes, BOXES): all of few panes, some of many."""
    for panes in (1, 2, 3, 4):
        for told in all_boxes(panes):
            yield panes, told
    draw = random.Random(30)
    for panes in (5, 6, 7):
        for _ in range(60):
            yield panes, boxes_by(draw, panes)
    yield 12, tuple(tuple(range(many)) for many in range(2, 12))
    yield 12, tuple(tuple(range(low, low + 2)) for low in range(0, 12, 2))


def boxes_by_hand(panes, thing):
    """Whether thing are BOXES of so many panes, word by word."""
    if type(thing) is not tuple:
        return False
    for own in thing:
        if type(own) is not tuple or any(type(pane) is not int or not 0 <= pane < panes for pane in own):
            return False
        if list(own) != sorted(set(own)) or not 2 <= len(own) < panes:
            return False
    return list(thing) == sorted(set(thing)) and is_laminar(thing)


def held(panes, told):
    """The boxes and the lone panes."""
    return list(told) + [(pane,) for pane in range(panes)]


def above(told, group):
    """The boxes that have all of group and more."""
    return [set(box) for box in told if set(group) < set(box)]


def holder_by_hand(panes, told, group):
    found = above(told, group)
    return tuple(sorted(min(found, key=len))) if found else tuple(range(panes))


def sides_by_hand(panes, told, pane):
    found = set()
    for box in told:
        two = [frozenset(box), frozenset(range(panes)) - frozenset(box)]
        if min(map(len, two)) > 1:
            found.add(next(tuple(sorted(side)) for side in two if pane not in side))
    return tuple(sorted(found))


class IsBoxes(unittest.TestCase):
    def test_all_of_few_panes(self):
        for panes in (1, 2, 3, 4):
            right = set(all_boxes(panes))
            groups = [own for own in groups_of(4)]
            self.assertIn((), right)
            for one in groups:
                self.assertIs(answer(boxes.is_boxes, window(panes), (one,)), (one,) in right)
                for two in groups:
                    self.assertIs(answer(boxes.is_boxes, window(panes), (one, two)), (one, two) in right)
            for told in right:
                self.assertIs(answer(boxes.is_boxes, window(panes), told), True)

    def test_wrong_things(self):
        for layout in (LONE, THIRDS, FIVE, POINT):
            for thing in WRONG + spoiled(((0, 1),)) + spoiled(NEST) + spoiled(((1, 2),)):
                told = boxes_by_hand(len(layout[1]), thing)
                self.assertIs(answer(boxes.is_boxes, layout, thing), told, thing)
        for thing in (((0, 1, 2),), ((0,),), ((0, 3),), ((True, 2),), ([0, 1],), [(0, 1)], ((0, 1), (0, 1)), ((1, 0),)):
            self.assertIs(answer(boxes.is_boxes, THIRDS, thing), False, thing)

    def test_far_too_many(self):
        every = tuple(own for own in groups_of(12) if 1 < len(own) < 12)
        self.assertIs(boxes.is_boxes(window(12), every), False)
        self.assertIs(boxes.is_boxes(window(12), ((0, 1),) * 5000), False)


class Holders(unittest.TestCase):
    def test_by_hand(self):
        for panes, told in cases():
            layout = window(panes)
            deeps = []
            for group in held(panes, told):
                self.assertEqual(answer(boxes.holder, layout, told, group), holder_by_hand(panes, told, group))
                deeps.append(1 + len(above(told, group)))
                self.assertEqual(answer(boxes.depth, layout, told, group), deeps[-1])
            self.assertEqual(answer(boxes.deepest, layout, told), max(deeps))
            if panes > 1:
                self.assertLessEqual(max(deeps), panes - 1)
                self.assertLessEqual(len(told), panes - 2)

    def test_things(self):
        for panes, told in cases():
            layout, whole = window(panes), tuple(range(panes))
            seen = []
            for group in set(told) | {whole}:
                things = answer(boxes.things_of, layout, told, group)
                own = [one for one in held(panes, told) if holder_by_hand(panes, told, one) == group]
                self.assertEqual(things, tuple(sorted(own)))
                self.assertTrue(is_split(layout, group, things))
                seen.extend(things)
            self.assertEqual(sorted(seen), sorted(held(panes, told)))

    def test_unfit(self):
        for panes, told in cases():
            if panes > 5:
                continue
            layout, whole = window(panes), tuple(range(panes))
            for group in groups_of(panes):
                if group not in held(panes, told):
                    self.assertEqual(refusal(boxes.holder, layout, told, group), UNFIT)
                    self.assertEqual(refusal(boxes.depth, layout, told, group), UNFIT)
                if group not in told and group != whole:
                    self.assertEqual(refusal(boxes.things_of, layout, told, group), UNFIT)

    def test_one_pane(self):
        self.assertEqual(answer(boxes.holder, LONE, (), (0,)), (0,))
        self.assertEqual(answer(boxes.depth, LONE, (), (0,)), 1)
        self.assertEqual(answer(boxes.deepest, LONE, ()), 1)
        self.assertEqual(answer(boxes.things_of, LONE, (), (0,)), ((0,),))

    def test_last_0(self):
        self.assertEqual(answer(boxes.holder, POINT, ((1, 2),), (1,)), (1, 2))
        self.assertEqual(answer(boxes.things_of, POINT, ((1, 2),), (0, 1, 2)), ((0,), (1, 2)))


class Partings(unittest.TestCase):
    def test_by_hand(self):
        for panes, told in cases():
            layout = window(panes)
            sides = sides_by_hand(panes, told, 0)
            self.assertEqual(answer(boxes.partings, layout, told), sides)
            self.assertIs(answer(boxes.tells_one, layout, told), len(sides) <= 1)
            for pane in range(panes):
                own = answer(boxes.turned, layout, told, pane)
                self.assertEqual(own, sides_by_hand(panes, told, pane))
                self.assertTrue(boxes_by_hand(panes, own))
                self.assertEqual(boxes.partings(layout, own), sides)

    def test_tells_one_exactly_if(self):
        for panes, told in cases():
            telling = [own for own in told if panes - len(own) > 1]
            both = len(telling) == 2 and sorted(telling[0] + telling[1]) == list(range(panes))
            self.assertIs(boxes.tells_one(window(panes), told), len(telling) < 2 or both)

    def test_no_place(self):
        for place in (-1, 5, 6, 10 ** 6):
            self.assertEqual(refusal(boxes.turned, FIVE, NEST, place), no_place(place))
        self.assertEqual(refusal(boxes.turned, LONE, (), 1), no_place(1))
        self.assertEqual(answer(boxes.turned, LONE, (), 0), ())

    def test_borders(self):
        self.assertEqual(answer(boxes.borders, LONE), ())
        self.assertEqual(answer(boxes.borders, window(2)), ())
        self.assertEqual(answer(boxes.borders, THIRDS), ((0, 1),))
        self.assertEqual(answer(boxes.borders, POINT), ((0, 1),))
        for panes in range(1, 13):
            told = answer(boxes.borders, window(panes))
            self.assertTrue(boxes_by_hand(panes, told))
            self.assertEqual([len(own) for own in told], list(range(2, panes)))
            self.assertTrue(all(own[-1] == len(own) - 1 for own in told))


class MoreAndLess(unittest.TestCase):
    def test_by_hand(self):
        for panes, told in cases():
            if panes > 5:
                continue
            layout = window(panes)
            for group in groups_of(panes):
                more = tuple(sorted(set(told) | {group}))
                if group in told or not boxes_by_hand(panes, more):
                    self.assertEqual(refusal(boxes.box_more, layout, told, group), CAN_NOT)
                else:
                    self.assertEqual(answer(boxes.box_more, layout, told, group), more)
                    self.assertEqual(answer(boxes.box_less, layout, more, group), told)
                if group in told:
                    less = tuple(own for own in told if own != group)
                    self.assertEqual(answer(boxes.box_less, layout, told, group), less)
                else:
                    self.assertEqual(refusal(boxes.box_less, layout, told, group), CAN_NOT)


if __name__ == "__main__":
    unittest.main()
