"""Section 19: changes."""

import itertools
import random
import unittest

from stillpanes import changes
from stillpanes.layouts import is_layout
from tests.reckon import (CAN_NOT, FIVE, LONE, POINT, THIRDS, TOO_MUCH, UNFIT, WRONG, answer, capped, drawings_to,
                          final_of, in_drawing, is_kept, is_whole, layout_by, layouts_by, no_place, pair_at, refusal,
                          some_limits, spoiled)

SMALL = layouts_by(190, 34, 4, 5, 5) + [THIRDS, LONE, POINT, (2, ((0, 1, 2), (0, 1, 2)))]
PAIR = (2, ((0, 1, 2, 3, 4), (0, 1, 2, 3, 4)))
LOOSE = (((0,), 2), ((1,), 2), ((2,), 2))
BOTH = tuple(sorted([((pane,), 1) for pane in range(5)] + [((0, 1), 1), ((3, 4), 1)]))


# a reckoning of the tests' own


def is_change_by_hand(thing):
    if type(thing) is not tuple or not thing or type(thing[0]) is not str:
        return False
    if thing[0] == "split":
        return (len(thing) == 3 and is_whole(thing[1]) and thing[1] >= 0 and type(thing[2]) is tuple
                and all(is_whole(own) and own >= 0 for own in thing[2]))
    many = {"exchange": 3, "give": 5, "out": 3}.get(thing[0])
    if many != len(thing) or not all(is_whole(own) and own >= 0 for own in thing[1:]):
        return False
    return {"exchange": thing[1] < thing[2], "give": thing[-1] >= 1, "out": True}[thing[0]]


def places_of(layout, change):
    """The first number that is none of layout's: of the panes in order, then of the width; None without."""
    panes, final = len(layout[1]), final_of(layout)
    told = [(own, panes) for own in (change[1:2] if change[0] == "split" else change[1:3])]
    if change[0] == "give":
        told.append((change[3], final + 1))
    return next((own for own, many in told if not 0 <= own < many), None)


def rows_behind(layout, change):
    """A dict with the row of each pane by its name: its old number, or "new"; with the names in order."""
    parts, rows = layout
    names = list(range(len(rows)))
    told = {name: list(rows[name]) for name in names}
    if change[0] == "exchange":
        one, other = change[1:]
        names[one], names[other] = other, one
    elif change[0] == "give":
        _, one, other, width, many = change
        for at in range(width, final_of(layout) + 1):
            told[one][at] -= many
            told[other][at] += many
    elif change[0] == "out":
        _, pane, heir = change
        told[heir] = [sum(own) for own in zip(told[heir], told[pane])]
        names.remove(pane)
    else:
        _, pane, row = change
        if len(row) != final_of(layout) + 1:
            return None, None
        told["new"] = [old - own for old, own in zip(told[pane], row)]
        told[pane] = list(row)
        names.insert(names.index(pane) + 1, "new")
    return names, told


def fits(parts, rows):
    """Whether these rows, of some panes, are those of a LAYOUT."""
    for row in rows:
        if row[0] != 0 or any(low > high for low, high in zip(row, row[1:])):
            return False
    return all(sum(column) == width * parts for width, column in enumerate(zip(*rows)))


def outcome_by_hand(layout, change):
    """The LAYOUT behind change, or what is raised."""
    place = places_of(layout, change)
    if place is not None:
        return no_place(place)
    if change[0] != "split" and change[1] == change[2]:
        return UNFIT
    names, told = rows_behind(layout, change)
    if names is None or not fits(layout[0], [told[name] for name in names]):
        return UNFIT
    return layout[0], tuple(tuple(told[name]) for name in names)


def drawing_by_hand(layout, drawing, change):
    names, _ = rows_behind(layout, change)
    if change[0] == "out":
        return tuple(names.index(change[2] if pane == change[1] else pane) for pane in drawing)
    return tuple(names.index(pane) for pane in drawing)


def row_by(draw, row):
    """A row that might be what a pane has of row: most often one with a rest that never falls."""
    told = [0]
    for low, high in zip(row, row[1:]):
        told.append(told[-1] + draw.randint(0, high - low))
    if draw.random() < 0.4:
        told[draw.randrange(len(told))] += draw.choice((1, -1, 3))
    if draw.random() < 0.15:
        told = told[:-1] if draw.random() < 0.5 else told + told[-1:]
    return tuple(max(0, own) for own in told)


def changes_by(draw, layout):
    """Some CHANGES: most of them can be, some name panes or widths that are not there."""
    panes, final = len(layout[1]), final_of(layout)
    one, other = draw.randint(0, panes), draw.randint(0, panes)
    if one != other:
        yield "exchange", min(one, other), max(one, other)
    yield "exchange", 0, panes - 1 if panes > 1 else 1
    yield "out", one, other
    yield "out", draw.randrange(panes), draw.randrange(panes)
    yield "give", one, other, draw.randint(0, final + 1), draw.randint(1, 3)
    for _ in range(4):
        yield ("give", draw.randrange(panes), draw.randrange(panes), draw.randint(0, final),
               draw.randint(1, max(1, layout[0] // 2)))
    pane = draw.randrange(panes)
    for _ in range(4):
        yield "split", pane, row_by(draw, layout[1][pane])
    yield "split", one, (0,) * (final + 1)
    yield "split", pane, ()


def drawing_by_draw(draw, layout):
    return tuple(draw.randrange(len(layout[1])) for _ in range(final_of(layout)))


def moves_between(drawing, other):
    return len([1 for pane, own in zip(drawing, other) if pane != own])


def kept_by(layout, limits):
    return [own for own in drawings_to(len(layout[1]), final_of(layout)) if is_kept(layout, own, limits)]


class Changes(unittest.TestCase):
    def test_forms(self):
        things = list(WRONG)
        for own in (("exchange", 0, 1), ("exchange", 1, 0), ("exchange", 2, 2), ("give", 0, 1, 2, 3),
                    ("give", 1, 1, 0, 1), ("give", 0, 1, 2, 0), ("out", 0, 0), ("out", 3, 1),
                    ("split", 0, (0, 1, 2)), ("split", 4, ()), ("split", 0, (3, 1)), ("merge", 0, 1),
                    ("out", 10 ** 40, 0), ("give", 0, 10 ** 40, 0, 10 ** 40)):
            things.extend([own, list(own)] + spoiled(own))
        told = set()
        for thing in things:
            is_one = is_change_by_hand(thing)
            self.assertIs(answer(changes.is_change, thing), is_one)
            told.add((thing[0], is_one) if type(thing) is tuple and thing and type(thing[0]) is str else is_one)
        for word in ("exchange", "give", "out", "split"):
            self.assertLessEqual({(word, True), (word, False)}, told)

    def test_changed(self):
        draw = random.Random(191)
        seen = {}
        for layout in SMALL * 4:
            for change in changes_by(draw, layout):
                told = outcome_by_hand(layout, change)
                drawing = drawing_by_draw(draw, layout)
                kind = told[0] if type(told[0]) is str else "told"
                seen[change[0], kind] = seen.get((change[0], kind), 0) + 1
                self.assertIs(is_change_by_hand(change), True)
                if kind != "told":
                    self.assertEqual(refusal(changes.changed, layout, change), told)
                    self.assertEqual(refusal(changes.drawing_behind, layout, drawing, change), told)
                    continue
                self.assertEqual(answer(changes.changed, layout, change), told)
                self.assertTrue(is_layout(told))
                behind = answer(changes.drawing_behind, layout, drawing, change)
                self.assertEqual(behind, drawing_by_hand(layout, drawing, change))
                self.assertTrue(all(0 <= pane < len(told[1]) for pane in behind))
        for word in ("exchange", "give", "out", "split"):
            self.assertGreater(seen[word, "told"], 30, word)
            self.assertGreater(seen[word, "NoPlace"], 10, word)
            if word != "exchange":
                self.assertGreater(seen[word, "Unfit"], 10, word)

    def test_which_error_comes_first(self):
        for change, told in ((("give", 2, 3, 5, 1), no_place(2)), (("give", 0, 3, 5, 1), no_place(3)),
                             (("give", 0, 0, 5, 1), no_place(5)), (("give", 0, 0, 4, 1), UNFIT),
                             (("give", 1, 1, 2, 1), UNFIT), (("give", 0, 1, 0, 1), UNFIT),
                             (("give", 0, 1, 4, 1), (2, ((0, 1, 2, 3, 3), (0, 1, 2, 3, 5)))),
                             (("give", 0, 1, 4, 2), UNFIT), (("give", 0, 1, 1, 10 ** 9), UNFIT),
                             (("out", 1, 1), UNFIT), (("out", 2, 2), no_place(2)), (("out", 0, 2), no_place(2)),
                             (("exchange", 0, 2), no_place(2)), (("exchange", 3, 4), no_place(3)),
                             (("split", 2, ()), no_place(2)), (("split", 0, ()), UNFIT),
                             (("split", 0, (0, 1, 2, 3)), UNFIT), (("split", 0, (0, 1, 2, 3, 4, 4)), UNFIT),
                             (("split", 0, (0, 0, 2, 2, 5)), UNFIT), (("split", 0, (0, 0, 2, 2, 2)), UNFIT),
                             (("split", 0, (1, 1, 1, 1, 1)), UNFIT), (("split", 0, (0, 1, 0, 1, 2)), UNFIT)):
            if type(told[0]) is int:
                self.assertEqual(answer(changes.changed, PAIR, change), told)
                continue
            self.assertEqual(refusal(changes.changed, PAIR, change), told)
            self.assertEqual(refusal(changes.drawing_behind, PAIR, (0, 1, 1, 0), change), told)

    def test_one_pane(self):
        # as many parts as there are pixels less than that is no LAYOUT that is shorter
        for row in ((0, 7), (0, 0), (), (0,), (0, 0, 0, 0, 0)):
            self.assertEqual(refusal(changes.changed, LONE, ("split", 0, row)), UNFIT)
        self.assertEqual(answer(changes.changed, LONE, ("split", 0, (0, 7, 7, 8))),
                         (7, ((0, 7, 7, 8), (0, 0, 7, 13))))
        self.assertEqual(refusal(changes.changed, LONE, ("out", 0, 0)), UNFIT)
        self.assertEqual(refusal(changes.changed, LONE, ("out", 0, 1)), no_place(1))
        self.assertEqual(answer(changes.changed, PAIR, ("out", 1, 0)), (2, ((0, 2, 4, 6, 8),)))
        self.assertEqual(answer(changes.drawing_behind, PAIR, (0, 1, 1, 0), ("out", 0, 1)), (0, 0, 0, 0))

    def test_last_0(self):
        self.assertEqual(answer(changes.changed, POINT, ("exchange", 0, 2)), POINT)
        self.assertEqual(answer(changes.changed, POINT, ("out", 0, 2)), (4, ((0,), (0,))))
        self.assertEqual(answer(changes.changed, POINT, ("split", 1, (0,))), (4, ((0,),) * 4))
        self.assertEqual(refusal(changes.changed, POINT, ("give", 0, 1, 0, 1)), UNFIT)
        self.assertEqual(refusal(changes.changed, POINT, ("give", 0, 1, 1, 1)), no_place(1))
        self.assertEqual(refusal(changes.changed, POINT, ("split", 1, ())), UNFIT)
        self.assertEqual(answer(changes.drawing_behind, POINT, (), ("out", 0, 2)), ())

    def test_pixels_stay_with_their_panes(self):
        for layout, change in ((FIVE, ("exchange", 1, 3)), (FIVE, ("out", 3, 0)), (FIVE, ("out", 0, 3)),
                               (FIVE, ("split", 1, (0, 0, 0, 1, 2, 2, 2)))):
            for drawing in itertools.islice(drawings_to(5, 6), 0, None, 997):
                told = answer(changes.drawing_behind, layout, drawing, change)
                self.assertEqual(told, drawing_by_hand(layout, drawing, change))
                self.assertLessEqual(len(set(told)), len(set(drawing)))

    def test_back_again(self):
        # what is exchanged twice, or split and given back, is as it was
        draw = random.Random(192)
        for layout in SMALL:
            panes = len(layout[1])
            if panes > 1:
                change = ("exchange", 0, panes - 1)
                self.assertEqual(changes.changed(changes.changed(layout, change), change), layout)
            pane = draw.randrange(panes)
            row = tuple(own // 2 for own in layout[1][pane])
            if outcome_by_hand(layout, ("split", pane, row))[0] == layout[0]:
                more = changes.changed(layout, ("split", pane, row))
                self.assertEqual(answer(changes.changed, more, ("out", pane + 1, pane)), layout)


class Moves(unittest.TestCase):
    @classmethod
    def setUpClass(cls):
        draw = random.Random(193)
        cls.cases = []
        told = [(layout, some_limits(draw, layout)) for layout in SMALL * 2]
        for _ in range(40):
            layout = layout_by(draw, draw.randint(3, 4), 5, draw.randint(2, 6))
            told.append((layout, tuple(((pane,), layout[0] - 1) for pane in range(len(layout[1])))))
        for layout, limits in told:
            kept = kept_by(layout, limits)
            for _ in range(2):
                cls.cases.append((layout, limits, kept, drawing_by_draw(draw, layout)))
            if kept:
                cls.cases.append((layout, limits, kept, draw.choice(kept)))

    def test_moved(self):
        draw = random.Random(194)
        for layout, _, _, drawing in self.cases:
            other = drawing_by_draw(draw, layout)
            told = answer(changes.moved, layout, drawing, other)
            self.assertEqual(told, tuple(at for at in range(len(drawing)) if drawing[at] != other[at]))
            self.assertEqual(answer(changes.moved, layout, drawing, drawing), ())

    def test_fewest(self):
        seen = {True: 0, False: 0}
        for layout, limits, kept, drawing in self.cases:
            seen[bool(kept)] += 1
            if not kept:
                self.assertEqual(refusal(changes.fewest_moved, layout, drawing, limits), CAN_NOT)
                self.assertEqual(refusal(changes.least_moved, layout, drawing, limits), CAN_NOT)
                for thing in (drawing, (), None, 0):
                    self.assertIs(answer(changes.is_least_moved, layout, drawing, limits, thing), False)
                continue
            fewest = min(moves_between(drawing, own) for own in kept)
            self.assertEqual(answer(changes.fewest_moved, layout, drawing, limits), fewest)
            self.assertIs(fewest == 0, drawing in kept)
            told = answer(changes.least_moved, layout, drawing, limits)
            self.assertIn(told, kept)
            self.assertEqual(moves_between(drawing, told), fewest)
            drawings = drawings_to(len(layout[1]), final_of(layout))
            for own in drawings[::len(drawings) // 30 + 1] + kept[:12] + [told]:
                is_one = own in kept and moves_between(drawing, own) == fewest
                self.assertIs(answer(changes.is_least_moved, layout, drawing, limits, own), is_one)
        self.assertGreater(min(seen.values()), 15)

    def test_what_stays(self):
        draw = random.Random(195)
        musts = 0
        for layout, limits, kept, drawing in self.cases:
            final = final_of(layout)
            stays = [tuple(at for at in range(final) if own[at] == drawing[at]) for own in kept]
            must = tuple(at for at in range(final) if not any(at in own for own in stays))
            self.assertEqual(answer(changes.must_move, layout, drawing, limits), must)
            musts += 0 < len(must) < final
            first = [max([many for many in range(final + 1) if own[:many] == drawing[:many]]) for own in kept]
            if kept:
                self.assertEqual(answer(changes.stays_to, layout, drawing, limits), max(first))
            else:
                self.assertEqual(refusal(changes.stays_to, layout, drawing, limits), CAN_NOT)
            for many in {0, 1, 2, final, draw.randint(0, final)}:
                pixels = tuple(sorted(draw.sample(range(final), min(final, many))))
                can = any(set(pixels) <= set(own) for own in stays)
                self.assertIs(answer(changes.can_stay, layout, drawing, limits, pixels), can)
            self.assertIs(answer(changes.can_stay, layout, drawing, limits, ()), bool(kept))
            for pixel in must:
                self.assertIs(answer(changes.can_stay, layout, drawing, limits, (pixel,)), False)
        self.assertGreater(musts, 20)

    def test_out_by(self):
        seen = set()
        for layout, limits, kept, drawing in self.cases:
            outs, is_bare = [0], False
            for group, off in limits:
                for width in range(final_of(layout) + 1):
                    # a far off is looked at as one that nobody can be out by either
                    pair = pair_at(layout, group, width, min(off, 50 * layout[0]))
                    if pair is None:
                        is_bare = True
                        continue
                    many = in_drawing(drawing, group, width)
                    outs.append(max(many - pair[1], pair[0] - many))
            if is_bare:
                self.assertEqual(refusal(changes.out_by, layout, drawing, limits), CAN_NOT)
                seen.add("bare")
                continue
            told = answer(changes.out_by, layout, drawing, limits)
            self.assertEqual(told, max(outs))
            self.assertIs(told == 0, is_kept(layout, drawing, limits))
            seen.add(told)
            if kept:
                self.assertLessEqual(told, changes.fewest_moved(layout, drawing, limits))
        self.assertLessEqual({"bare", 0, 1, 2}, seen)

    def test_by_way_of_another_drawing(self):
        draw = random.Random(196)
        for layout, limits, kept, drawing in self.cases:
            if not kept:
                continue
            fewest = changes.fewest_moved(layout, drawing, limits)
            for _ in range(4):
                other = drawing_by_draw(draw, layout)
                way = len(changes.moved(layout, drawing, other)) + changes.fewest_moved(layout, other, limits)
                self.assertLessEqual(fewest, way)

    def test_behind_changes(self):
        # behind a CHANGE as many pixels move as by trying
        draw = random.Random(197)
        seen = 0
        for layout in SMALL:
            drawing = drawing_by_draw(draw, layout)
            for change in changes_by(draw, layout):
                if type(outcome_by_hand(layout, change)[0]) is str:
                    continue
                behind = changes.changed(layout, change)
                if len(behind[1]) > 4:
                    continue
                own = changes.drawing_behind(layout, drawing, change)
                limits = tuple(((pane,), behind[0]) for pane in range(len(behind[1])))
                fewest = min(moves_between(own, other) for other in kept_by(behind, limits))
                self.assertEqual(answer(changes.fewest_moved, behind, own, limits), fewest)
                seen += fewest > 0
        self.assertGreater(seen, 40)


class Things(unittest.TestCase):
    def test_is_least_moved(self):
        for layout, drawing, limits in ((THIRDS, (0, 0, 1), LOOSE), (FIVE, (0,) * 6, BOTH[:3]), (POINT, (), ()),
                                        (LONE, (0, 0, 0), (((0,), 0),)), (FIVE, (0,) * 6, BOTH)):
            kept = [own for own in kept_by(layout, limits)]
            fewest = min([moves_between(drawing, own) for own in kept], default=None)
            least = [own for own in kept if moves_between(drawing, own) == fewest]
            things = list(WRONG)
            for own in least[:3] + kept[:3] + [drawing]:
                things.extend([own, list(own)] + spoiled(own))
            for thing in things:
                is_one = type(thing) is tuple and all(map(is_whole, thing)) and thing in least
                self.assertIs(answer(changes.is_least_moved, layout, drawing, limits, thing), is_one)


class Errors(unittest.TestCase):
    # so many STATES at the widths 12, 13: 3,338 and 4,001; never more than 4,000
    MORE, MOST = (1, 7, 12, 12, 12), (9, 9, 7, 4)

    def test_too_much(self):
        layout, limits = capped(self.MORE, 14)
        for drawing in ((0,) * 14, (5,) * 14, (4,) * 12 + (3, 3)):
            for function in (changes.fewest_moved, changes.least_moved, changes.must_move, changes.stays_to):
                self.assertEqual(refusal(function, layout, drawing, limits), TOO_MUCH)
            for pixels in ((), (0, 13), tuple(range(14))):
                self.assertEqual(refusal(changes.can_stay, layout, drawing, limits, pixels), TOO_MUCH)
            for thing in (None, drawing, ()):
                self.assertEqual(refusal(changes.is_least_moved, layout, drawing, limits, thing), TOO_MUCH)
        # this one looks at no STATES
        self.assertEqual(answer(changes.out_by, layout, (0,) * 14, limits), 13)
        self.assertEqual(answer(changes.moved, layout, (0,) * 14, (0,) * 13 + (5,)), (13,))

    def test_at_the_bound(self):
        layout, limits = capped(self.MOST, 30)
        drawing = (0,) * 30
        self.assertEqual(changes.fewest_moved(layout, drawing, limits), 21)
        self.assertEqual(changes.stays_to(layout, drawing, limits), 9)
        self.assertEqual(changes.must_move(layout, drawing, limits), ())
        self.assertIs(changes.can_stay(layout, drawing, limits, tuple(range(3, 12))), True)
        self.assertIs(changes.can_stay(layout, drawing, limits, tuple(range(3, 13))), False)
        least = changes.least_moved(layout, drawing, limits)
        self.assertEqual(least.count(0), 9)
        self.assertIs(changes.is_least_moved(layout, drawing, limits, least), True)

    def test_without_a_drawing(self):
        for drawing in ((0,) * 6, (0, 2, 1, 1, 4, 1)):
            for function in (changes.fewest_moved, changes.least_moved, changes.stays_to):
                self.assertEqual(refusal(function, FIVE, drawing, BOTH), CAN_NOT)
            self.assertEqual(answer(changes.must_move, FIVE, drawing, BOTH), (0, 1, 2, 3, 4, 5))
            self.assertIs(answer(changes.can_stay, FIVE, drawing, BOTH, ()), False)
            self.assertEqual(answer(changes.out_by, FIVE, drawing, ()), 0)

    def test_edges(self):
        self.assertEqual(answer(changes.fewest_moved, POINT, (), (((0,), 0),)), 0)
        self.assertEqual(answer(changes.least_moved, POINT, (), ()), ())
        self.assertEqual(answer(changes.stays_to, POINT, (), ()), 0)
        self.assertEqual(answer(changes.must_move, POINT, (), ()), ())
        self.assertEqual(answer(changes.out_by, POINT, (), (((0,), 0),)), 0)
        self.assertEqual(answer(changes.fewest_moved, THIRDS, (2, 2, 2), ()), 0)
        self.assertEqual(answer(changes.stays_to, THIRDS, (2, 2, 2), ()), 3)
        self.assertEqual(answer(changes.stays_to, LONE, (0, 0, 0), (((0,), 0),)), 3)
        whole = (2, ((0, 2, 2, 4), (0, 0, 2, 2)))
        self.assertEqual(answer(changes.must_move, whole, (0, 0, 1), (((0,), 0),)), (1, 2))
        self.assertEqual(answer(changes.out_by, whole, (0, 0, 0), (((0,), 0), ((1,), 0))), 1)


if __name__ == "__main__":
    unittest.main()
