"""Flat drawings: each lone pane near to its exact width, whatever boxes there are."""

from stillpanes.drawings import is_drawing, off_of, row_of
from stillpanes.errors import CanNot
from stillpanes.follow import is_press, least_follow, press, rows_behind
from stillpanes.layouts import all_panes, last, lone_split
from stillpanes.shown import drawing_of


def flat(layout, off):
    """A flat DRAWING by off."""
    return earliest(layout, off)


def is_flat(layout, off, thing):
    """Whether thing is a flat DRAWING by off."""
    if not is_drawing(layout, thing):
        return False
    return all([off_of(layout, group, row_of(layout, thing, group)) <= off for group in _lone(layout)])


def earliest(layout, off):
    """The DRAWING in which each pixel goes to the pane that needs it first."""
    rows = rows_behind(layout, _lone(layout), whole_row(layout), off)
    if rows is None:
        raise CanNot()
    return drawing_of(layout, rows)


def whole_row(layout):
    """The ROW of the GROUP of all panes."""
    return tuple(range(last(layout) + 1))


def _lone(layout):
    """The SPLIT of all panes into lone ones."""
    return lone_split(all_panes(layout))


def least_flat(layout):
    """The least off by which there is a flat DRAWING."""
    return least_follow(layout, _lone(layout), whole_row(layout))


def flat_press(layout, off):
    """A PRESS of the whole ROW, for the lone SPLIT, by off."""
    return press(layout, _lone(layout), whole_row(layout), off)


def is_flat_press(layout, off, thing):
    """Whether thing is a PRESS of the whole ROW, for the lone SPLIT, by off."""
    return is_press(layout, _lone(layout), whole_row(layout), off, thing)


def promise(many, parts):
    """The off by which there is a flat DRAWING of each LAYOUT of so many panes and parts."""
    if many == 1:
        return 0
    return parts + -parts // (2 * many - 2)


def hardest(many):
    """The LAYOUT of so many panes whose flat DRAWINGS are as far off as the promise."""
    row = [max(0, 2 * width - 1) for width in range(many)]
    final = [0] + [many - 1] * (many - 1)
    return 2 * many - 2, tuple([tuple(row)] * (many - 1) + [tuple(final)])
