"""Drawings: to which pane each pixel goes, and how far off that is."""

from stillpanes.basics import are_numbers, ascends, is_number_from, is_tuple_of, tupled
from stillpanes.layouts import check_width, exact, exact_row, is_group, last


def is_drawing(layout, thing):
    """Whether thing is a DRAWING of layout."""
    if not are_numbers(thing) or len(thing) != last(layout):
        return False
    return all([pane < len(layout[1]) for pane in thing])


def is_row(layout, thing):
    """Whether thing is a ROW of layout."""
    if not are_numbers(thing) or len(thing) != last(layout) + 1 or thing[0] != 0:
        return False
    return all([high - low in (0, 1) for low, high in zip(thing, thing[1:])])


def are_limits(layout, thing):
    """Whether thing are LIMITS of layout."""
    if not isinstance(thing, tuple) or not all([_is_limit(layout, own) for own in thing]):
        return False
    # whoever ascends by the groups alone ascends, and has no group twice
    return ascends([group for group, off in thing])


def _is_limit(layout, thing):
    """Whether thing is a pair (group, off) as LIMITS have."""
    return is_tuple_of(thing, 2) and is_group(layout, thing[0]) and is_number_from(thing[1], 0)


def pixels(layout, drawing, group, width):
    """How many pixels group has in drawing at width."""
    check_width(layout, width)
    return row_of(layout, drawing, group)[width]


def row_of(layout, drawing, group):
    """The ROW of group in drawing."""
    row = [0]
    for pane in drawing:
        row.append(row[-1] + 1 if pane in group else row[-1])
    return tuple(row)


def off_at(layout, group, row, width):
    """The off, for group, of the number that row has at width."""
    check_width(layout, width)
    return abs(row[width] * layout[0] - exact(layout, group, width))


def off_row(layout, group, row):
    """The tuple of the offs, for group, of the numbers of row."""
    wides = exact_row(layout, group)
    return tuple([abs(many * layout[0] - wide) for many, wide in zip(row, wides)])


def off_of(layout, group, row):
    """The off of row for group."""
    return max(off_row(layout, group, row))


def worst_at(layout, group, row):
    """The least width at which row is off, for group, by just its off."""
    offs = off_row(layout, group, row)
    return offs.index(max(offs))


def is_snug(layout, group, row):
    """Whether row is snug for group."""
    return off_of(layout, group, row) < layout[0]


def keeps(layout, drawing, limits):
    """Whether drawing keeps limits."""
    return first_broken(layout, drawing, limits) is None


def first_broken(layout, drawing, limits):
    """The least pair (width, group) at which drawing does not keep limits, None if it keeps them."""
    limits = tupled(limits)
    offs = [off_row(layout, group, row_of(layout, drawing, group)) for group, _ in limits]
    for width in range(last(layout) + 1):
        for (group, most), own in zip(limits, offs):
            if own[width] > most:
                return width, group
    return None
