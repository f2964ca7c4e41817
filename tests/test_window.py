"""Section 20: a window that is pulled."""

import copy
import random
import unittest

from stillpanes.errors import CanNot, NoPlace
from stillpanes.window import Window
from tests.reckon import (DEEP_LIST, DEEP_TUPLE, FIVE, LONE, POINT, THIRDS, all_boxes, boxes_by, final_of, groups_of,
                          in_drawing, layout_by, layouts_by, listed, outcome, wide)

NEST = ((0, 1), (0, 1, 2), (3, 4))
DRAWING = (0, 1, 1, 4, 1, 2)
SIGNS = "0123456789abcdefghijklmnopqrstuvwxyz" + "+" * 100


class Told:
    """A reckoning of the tests' own beside a Window, step by step."""

    def __init__(self, layout, boxes, drawing):
        self.layout, self.boxes, self.drawing = layout, boxes, drawing
        self.history = []

    def at(self):
        return self.history[-1] if self.history else 0

    def many(self, pane, width):
        return in_drawing(self.drawing, (pane,), width)

    def moved(self, low, high):
        found = []
        for pane in range(len(self.layout[1])):
            more = self.many(pane, high) - self.many(pane, low)
            if more:
                found.append((pane, more))
        return found

    def line(self):
        """The panes of the pixels, from the left on."""
        return sorted(self.drawing[:self.at()])

    def picture(self):
        depths = {box: 1 + sum(set(box) < set(own) for own in self.boxes) for box in self.boxes}
        lines = ["".join(SIGNS[pane] for pane in self.line())]
        for depth in range(1, max(depths.values(), default=0) + 1):
            signs = []
            for pane in self.line():
                around = [box for box in self.boxes if pane in box and depths[box] == depth]
                signs.append(SIGNS[min(around[0])] if around else ".")
            lines.append("".join(signs))
        return tuple(lines)


def told(own, method, *args):
    """The outcome of a method that changes nothing, by position, with lists, and by name."""
    first = outcome(getattr(own, method), args, {})
    loose = listed(args)
    kept = copy.deepcopy(loose)
    again = outcome(getattr(own, method), loose, {})
    names = {"moved": ("low", "high"), "pixels": ("group",), "off": ("group",), "pane_at": ("place",)}.get(method, ())
    by_name = outcome(getattr(own, method), (), dict(zip(names, loose)))
    assert repr(first) == repr(again) == repr(by_name), (method, args, first, again, by_name)
    assert repr(loose) == repr(kept)
    return first


def made(layout, boxes, drawing):
    """The outcome of the constructor, by position, with lists, and by name."""
    first = outcome(Window, (layout, boxes, drawing), {})
    loose = listed((layout, boxes, drawing))
    again = outcome(Window, loose, {})
    by_name = outcome(Window, (), dict(zip(("layout", "boxes", "drawing"), loose)))
    assert first[0] == again[0] == by_name[0], (layout, boxes, drawing)
    assert loose == listed((layout, boxes, drawing))
    return first


def drawing_by(draw, layout):
    return tuple(draw.randrange(len(layout[1])) for _ in range(final_of(layout)))


class Pulled(unittest.TestCase):
    def check(self, own, beside):
        """All that a Window tells without a change."""
        layout, at = beside.layout, beside.at()
        self.assertEqual(told(own, "at"), ("told", at))
        self.assertEqual(told(own, "pulls"), ("told", beside.history))
        many = tuple(beside.many(pane, at) for pane in range(len(layout[1])))
        self.assertEqual(told(own, "panes_at"), ("told", many))
        self.assertEqual(told(own, "picture"), ("told", beside.picture()))
        for group in groups_of(len(layout[1]))[:12]:
            many = in_drawing(beside.drawing, group, at)
            self.assertEqual(told(own, "pixels", group), ("told", many))
            self.assertEqual(told(own, "off", group), ("told", abs(many * layout[0] - wide(layout, group, at))))
        for place in range(-1, final_of(layout) + 2):
            if 0 <= place < at:
                self.assertEqual(told(own, "pane_at", place), ("told", beside.line()[place]))
            else:
                self.assertEqual(told(own, "pane_at", place), ("raised", "NoPlace", {"place": place}))

    def test_drawn_pulls(self):
        draw = random.Random(200)
        for layout in layouts_by(201, 25, 6, 8, 6) + [THIRDS, FIVE, LONE, POINT]:
            boxes, drawing = boxes_by(draw, len(layout[1])), drawing_by(draw, layout)
            own = made(layout, boxes, drawing)[1]
            beside = Told(layout, boxes, drawing)
            self.check(own, beside)
            for _ in range(14):
                self.step(draw, own, beside)
                self.check(own, beside)

    def step(self, draw, own, beside):
        final = final_of(beside.layout)
        kind = draw.randrange(6)
        if kind == 0:
            place = draw.choice((-1, final + 1, -final - 1, 10 ** 6))
            self.assertEqual(outcome(own.pulled, (place,), {}), ("raised", "NoPlace", {"place": place}))
        elif kind < 3:
            if not beside.history:
                self.assertEqual(outcome(own.undone, (), {}), ("raised", "CanNot", {}))
                return
            beside.history.pop()
            self.assertEqual(own.undone(), beside.at())
        else:
            width = draw.choice((draw.randint(0, final), beside.at()))
            by_name = {"width": width} if draw.random() < 0.5 else {}
            moved = beside.moved(beside.at(), width)
            again = outcome(own.moved, (beside.at(), width), {})
            self.assertEqual(again, ("told", moved))
            self.assertEqual(outcome(own.pulled, () if by_name else (width,), by_name), again)
            beside.history.append(width)

    def test_moved_for_all_widths(self):
        draw = random.Random(202)
        for layout in layouts_by(203, 12, 5, 6, 5) + [POINT]:
            drawing = drawing_by(draw, layout)
            own, beside = Window(layout, (), drawing), Told(layout, (), drawing)
            final = final_of(layout)
            for low in range(final + 1):
                for high in range(final + 1):
                    moved = told(own, "moved", low, high)[1]
                    self.assertEqual(moved, beside.moved(low, high))
                    # no pane loses by a greater width, none gains by a lesser one, all together what the width does
                    self.assertTrue(all(more > 0 if high > low else more < 0 for _, more in moved))
                    self.assertEqual(sum(more for _, more in moved), high - low)
                    self.assertEqual(own.at(), 0)

    def test_the_width_alone_tells(self):
        draw = random.Random(204)
        for layout in layouts_by(205, 10, 5, 7, 5):
            boxes, drawing, final = boxes_by(draw, len(layout[1])), drawing_by(draw, layout), final_of(layout)
            straight, about = Window(layout, boxes, drawing), Window(layout, boxes, drawing)
            for width in range(final + 1):
                straight.pulled(width)
                for _ in range(3):
                    about.pulled(draw.randint(0, final))
                about.undone()
                about.pulled(width)
                for method in ("at", "panes_at", "picture"):
                    self.assertEqual(told(straight, method), told(about, method))
                for group in groups_of(len(layout[1])):
                    self.assertEqual(told(straight, "off", group), told(about, "off", group))

    def test_no_place_one_after_another(self):
        own = Window(FIVE, NEST, DRAWING)
        self.assertEqual(told(own, "moved", 7, 9), ("raised", "NoPlace", {"place": 7}))
        self.assertEqual(told(own, "moved", 6, -1), ("raised", "NoPlace", {"place": -1}))
        self.assertEqual(told(own, "moved", -2, -1), ("raised", "NoPlace", {"place": -2}))
        for place in (-1, 7, -6):
            with self.assertRaises(NoPlace) as caught:
                own.pulled(place)
            self.assertEqual(caught.exception.place, place)
            self.assertEqual((own.at(), own.pulls()), (0, []))

    def test_pull_to_the_same_width(self):
        own = Window(FIVE, NEST, DRAWING)
        self.assertEqual(own.pulled(0), [])
        self.assertEqual(own.pulled(4), [(0, 1), (1, 2), (4, 1)])
        self.assertEqual(own.pulled(4), [])
        self.assertEqual(own.pulls(), [0, 4, 4])
        self.assertEqual([own.undone(), own.undone(), own.undone()], [4, 0, 0])
        with self.assertRaises(CanNot):
            own.undone()
        self.assertEqual((own.at(), own.pulls()), (0, []))

    def test_what_is_told_is_new(self):
        own = Window(FIVE, NEST, DRAWING)
        own.pulled(3).append("more")
        own.pulls().append(9)
        own.moved(0, 6).clear()
        self.assertEqual((own.pulls(), own.at(), own.moved(0, 2)), ([3], 3, [(0, 1), (1, 1)]))
        self.assertIsNot(own.pulls(), own.pulls())

    def test_what_is_handed_in_is_copied(self):
        layout, boxes, drawing = listed(FIVE), listed(NEST), listed(DRAWING)
        own, other = Window(layout, boxes, drawing), Window(FIVE, NEST, DRAWING)
        layout[0], layout[1][1][3] = 7, 9
        layout[1].pop()
        boxes[0].append(3)
        boxes.clear()
        drawing[:] = [0] * 6
        for width in (6, 3, 5):
            self.assertEqual(own.pulled(width), other.pulled(width))
            for method in ("panes_at", "picture", "pulls"):
                self.assertEqual(told(own, method), told(other, method))
            for group in groups_of(5):
                self.assertEqual(told(own, "off", group), told(other, "off", group))

    def test_two_windows_are_apart(self):
        one, other = Window(FIVE, NEST, DRAWING), Window(FIVE, NEST, DRAWING)
        one.pulled(5)
        self.assertEqual((one.at(), other.at(), other.pulls()), (5, 0, []))


class Pictures(unittest.TestCase):
    def test_all_boxes(self):
        draw = random.Random(206)
        for boxes in all_boxes(4):
            layout = layout_by(draw, 4, 7, 4)
            drawing = drawing_by(draw, layout)
            own, beside = Window(layout, boxes, drawing), Told(layout, boxes, drawing)
            for width in (0, 7, 3):
                own.pulled(width)
                beside.history.append(width)
                self.assertEqual(told(own, "picture"), ("told", beside.picture()))

    def test_without_boxes(self):
        own = Window(THIRDS, (), (2, 0, 2))
        self.assertEqual(own.picture(), ("",))
        own.pulled(3)
        self.assertEqual(own.picture(), ("022",))

    def test_nothing_yet(self):
        own = Window(FIVE, NEST, DRAWING)
        self.assertEqual(own.picture(), ("", "", ""))
        self.assertEqual(own.panes_at(), (0, 0, 0, 0, 0))

    def test_more_than_36_panes(self):
        many = 40
        layout = (1, tuple(tuple(max(0, min(1, width - pane)) for width in range(many + 1)) for pane in range(many)))
        boxes = (tuple(range(30, 40)), tuple(range(35, 38)), (36, 37), (38, 39))
        own = Window(layout, boxes, tuple(range(many)))
        own.pulled(many)
        self.assertEqual(own.picture(), ("0123456789abcdefghijklmnopqrstuvwxyz++++", "." * 30 + "u" * 10,
                                         "." * 35 + "zzz" + "++", "." * 36 + "++" + ".."))
        self.assertEqual([own.pane_at(place) for place in (0, 35, 36, 39)], [0, 35, 36, 39])

    def test_last_0_and_one_pane(self):
        own = Window(POINT, ((0, 1),), ())
        self.assertEqual((own.at(), own.picture(), own.pulled(0), own.moved(0, 0)), (0, ("", ""), [], []))
        self.assertEqual(told(own, "pane_at", 0), ("raised", "NoPlace", {"place": 0}))
        own = Window(LONE, (), (0, 0, 0))
        self.assertEqual((own.pulled(3), own.picture(), own.off((0,))), ([(0, 3)], ("000",), 0))


class Unfitting(unittest.TestCase):
    def test_boxes_and_drawings(self):
        wrong_boxes = [((0,),), ((1, 0),), ((0, 1), (1, 2)), ((0, 1, 2, 3, 4),), ((3, 4), (0, 1)), ((0, 5),), (0, 1),
                       ((0, 1), (0, 1)), ((),), ((0, True),), ((-1, 0),), None, 7, "boxes", DEEP_TUPLE, DEEP_LIST]
        wrong_drawings = [(0, 1), (), DRAWING + (0,), DRAWING[:5] + (5,), DRAWING[:5] + (-1,), DRAWING[:5] + (None,),
                          DRAWING[:5] + ((0,),), DRAWING[:5] + (True,), None, 3, "012345", DEEP_LIST]
        for boxes in wrong_boxes:
            for drawing in wrong_drawings + [DRAWING]:
                self.assertEqual(made(FIVE, boxes, drawing), ("raised", "Unfit", {}))
        for drawing in wrong_drawings:
            self.assertEqual(made(FIVE, NEST, drawing), ("raised", "Unfit", {}))
        self.assertEqual(made(FIVE, NEST, DRAWING)[0], "told")


if __name__ == "__main__":
    unittest.main()
