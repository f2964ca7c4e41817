"""Level by level: each box's row followed by its things, and these by theirs."""

from stillpanes.basics import are_numbers, tupled
from stillpanes.boxes import deepest, depth_of, held_groups, things_of
from stillpanes.drawings import is_drawing, off_of, off_row, row_of
from stillpanes.errors import Unfit
from stillpanes.flat import whole_row
from stillpanes.follow import followed, least_follow
from stillpanes.layouts import all_panes


def half_more(parts, off):
    """Half more than off: by how much the things of a box can be off whose row is off by off."""
    return (parts + max(parts, 2 * off)) // 2


def promise_at(parts, depth):
    """The promise at this DEPTH."""
    if depth == 1:
        return parts - 1
    # from half a pixel on, half more is just half a pixel more
    return half_more(parts, parts - 1) + (depth - 2) * (parts // 2)


def by_levels(layout, boxes):
    """A DRAWING in which each box and lone pane is off by at most the promise at its DEPTH."""
    return _filling(layout, tupled(boxes), all_panes(layout), whole_row(layout), layout[0] - 1)


def _filling(layout, boxes, group, row, most):
    """A tuple of panes of group, one for each pixel of row.

    Its things are off by at most most, those of such a thing by at most half more, and so on.
    """
    things = things_of(layout, boxes, group)
    rows = followed(layout, things, row, most)
    inner = [_thing_filling(layout, boxes, thing, own, most) for thing, own in zip(things, rows)]
    panes = []
    for width in range(1, len(row)):
        for number, own in enumerate(rows):
            if own[width] > own[width - 1]:
                panes.append(inner[number][own[width - 1]])
    return tuple(panes)


def _thing_filling(layout, boxes, thing, row, most):
    """A tuple of panes of thing, a box or a lone pane that is off by at most most, for each pixel of row."""
    if thing not in boxes:
        return thing * row[-1]
    return _filling(layout, boxes, thing, row, half_more(layout[0], most))


def is_by_levels(layout, boxes, thing):
    """Whether thing is a DRAWING in which each box and lone pane is off by at most the promise at its DEPTH."""
    return is_drawing(layout, thing) and first_over(layout, boxes, thing) is None


def offs_by_depth(layout, boxes, drawing):
    """For each DEPTH the greatest off of the boxes and lone panes there."""
    boxes = tupled(boxes)
    offs = [0] * deepest(layout, boxes)
    for group in held_groups(layout, boxes):
        at = depth_of(boxes, group) - 1
        offs[at] = max(offs[at], off_of(layout, group, row_of(layout, drawing, group)))
    return tuple(offs)


def first_over(layout, boxes, drawing):
    """The least triple (depth, group, width) at which a group is off by more than promised, None without."""
    boxes = tupled(boxes)
    found = []
    for group in held_groups(layout, boxes):
        own = depth_of(boxes, group)
        offs = off_row(layout, group, row_of(layout, drawing, group))
        over = [width for width, off in enumerate(offs) if off > promise_at(layout[0], own)]
        if over:
            found.append((own, group, over[0]))
    return min(found, default=None)


def held(layout, boxes, drawing):
    """For each holder its off, the greatest off of its things, and the least that could be behind its ROW."""
    boxes = tupled(boxes)
    found = []
    for group in sorted(list(boxes) + [all_panes(layout)]):
        row = row_of(layout, drawing, group)
        things = things_of(layout, boxes, group)
        offs = [off_of(layout, thing, row_of(layout, drawing, thing)) for thing in things]
        found.append((group, off_of(layout, group, row), max(offs), least_follow(layout, things, row)))
    return found


def filled(layout, boxes, box, row):
    """A tuple of panes of box that fills row."""
    boxes, box = tupled(boxes), tupled(box)
    _check_box(boxes, box)
    return _filling(layout, boxes, box, row, half_more(layout[0], off_of(layout, box, row)))


def fills(layout, boxes, box, row, thing):
    """Whether thing is a tuple of panes of box that fills row."""
    boxes, box = tupled(boxes), tupled(box)
    _check_box(boxes, box)
    if not are_numbers(thing) or len(thing) != row[-1] or not all([pane in box for pane in thing]):
        return False
    return _fills(layout, boxes, box, row, half_more(layout[0], off_of(layout, box, row)), thing)


def _fills(layout, boxes, group, row, most, panes):
    """Whether by these panes the things of group are off by at most most, those of such a thing by half more."""
    more = half_more(layout[0], most)
    for thing in things_of(layout, boxes, group):
        if off_of(layout, thing, _row_within(thing, row, panes)) > most:
            return False
        if thing in boxes and not _fills(layout, boxes, thing, row, more, panes):
            return False
    return True


def _row_within(group, row, panes):
    """The ROW of group if the pixels of row go to these panes, one after another."""
    return tuple([len([pane for pane in panes[:many] if pane in group]) for many in row])


def _check_box(boxes, box):
    """Unfit() unless box is one of boxes."""
    if box not in boxes:
        raise Unfit()


def refilled(layout, boxes, drawing, box):
    """drawing, but the pixels of box go to the panes that filled tells for its ROW."""
    row = row_of(layout, drawing, box)
    panes = filled(layout, boxes, box, row)
    again = list(drawing)
    for place, pane in enumerate(drawing):
        if pane in box:
            again[place] = panes[row[place]]
    return tuple(again)
