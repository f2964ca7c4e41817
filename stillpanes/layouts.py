"""Layouts: how wide each pane is exactly, in parts of pixels, at each width of the window."""

from math import gcd

from stillpanes.basics import are_numbers, ascends, check_place, is_number_from, is_tuple_of, tupled
from stillpanes.errors import CanNot, Unfit


def is_layout(thing):
    """Whether thing is a LAYOUT."""
    if not is_tuple_of(thing, 2) or not is_number_from(thing[0], 1):
        return False
    parts, rows = thing
    if not isinstance(rows, tuple) or not rows or not all([_never_falls(row) for row in rows]):
        return False
    if not all([len(row) == len(rows[0]) for row in rows]):
        return False
    return all([sum(wide) == width * parts for width, wide in enumerate(zip(*rows))])


def _never_falls(thing):
    """Whether thing is a tuple of numbers that begins with 0 and never falls."""
    if not are_numbers(thing) or not thing:
        return False
    return thing[0] == 0 and all([low <= high for low, high in zip(thing, thing[1:])])


def is_group(layout, thing):
    """Whether thing is a GROUP of layout."""
    if not are_numbers(thing) or not thing:
        return False
    return ascends(thing) and thing[-1] < len(layout[1])


def is_split(layout, group, thing):
    """Whether thing is a SPLIT of group."""
    if not isinstance(thing, tuple) or not all([is_group(layout, own) for own in thing]):
        return False
    panes = [pane for own in thing for pane in own]
    return ascends(thing) and sorted(panes) == list(group)


def all_panes(layout):
    """The GROUP of all panes."""
    return tuple(range(len(layout[1])))


def split_group(split):
    """The GROUP of which split is a SPLIT."""
    return tuple(sorted([pane for group in split for pane in group]))


def lone_split(group):
    """The SPLIT of group into lone panes."""
    return tuple([(pane,) for pane in group])


def last(layout):
    """The LAST of layout."""
    return len(layout[1][0]) - 1


def check_width(layout, width):
    """NoPlace(width) unless it is a width of layout."""
    check_place(width, last(layout) + 1)


def exact(layout, group, width):
    """The exact width of group at width, in parts."""
    check_width(layout, width)
    return sum([layout[1][pane][width] for pane in group])


def exact_row(layout, group):
    """The tuple of the exact widths of group at all widths."""
    rows = [layout[1][pane] for pane in group]
    return tuple([sum(wide) for wide in zip(*rows)])


def grown(layout, group, low, high):
    """By how many parts group grows from low to high."""
    check_width(layout, low)
    check_width(layout, high)
    if high < low:
        raise Unfit()
    return exact(layout, group, high) - exact(layout, group, low)


def whole_at(layout, group):
    """The set of the widths at which group has whole pixels."""
    wides = exact_row(layout, group)
    return tuple([width for width, wide in enumerate(wides) if wide % layout[0] == 0])


def lowest(layout):
    """The LAYOUT with the fewest parts that tells the same widths."""
    parts, rows = layout
    common = _common_divisor(layout)
    return parts // common, tuple([tuple([wide // common for wide in row]) for row in rows])


def _common_divisor(layout):
    """The greatest number by which the parts and all exact widths can be divided."""
    parts, rows = layout
    common = parts
    for row in rows:
        for wide in row:
            common = gcd(common, wide)
    return common


def finer(layout, many):
    """The LAYOUT with many times as many parts that tells the same widths."""
    if many < 1:
        raise Unfit()
    parts, rows = layout
    return parts * many, tuple([tuple([wide * many for wide in row]) for row in rows])


def cut_to(layout, width):
    """The LAYOUT of the widths up to this one."""
    check_width(layout, width)
    return layout[0], tuple([tuple(row[:width + 1]) for row in layout[1]])


def merged(layout, split):
    """The LAYOUT whose panes are the GROUPS of split."""
    return layout[0], tuple([exact_row(layout, group) for group in split])


def led_on(layout):
    """layout, widened until all its panes are whole at the LAST."""
    parts, rows = layout
    longer = [list(row) for row in rows]
    lacks = [-row[-1] % parts for row in rows]
    while any(lacks):
        dealt = _dealt(lacks, parts)
        for pane, more in enumerate(dealt):
            longer[pane].append(longer[pane][-1] + more)
        lacks = [lack - more for lack, more in zip(lacks, dealt)]
    return tupled((parts, longer))


def _dealt(lacks, parts):
    """How many of these parts each pane gets, the least that lacks some ahead of the others."""
    dealt = []
    for lack in lacks:
        more = min(lack, parts)
        dealt.append(more)
        parts -= more
    return dealt


def joined_behind(layout, other):
    """The LAYOUT that is layout up to its LAST and grows as other does from there on."""
    parts, rows = layout
    if len(other[1]) != len(rows) or other[0] != parts:
        raise CanNot()
    return parts, tuple([_row_behind(row, more) for row, more in zip(rows, other[1])])


def _row_behind(row, more):
    """row, and behind it the numbers of more, but the first, from the last number of row on."""
    return tuple(row) + tuple([row[-1] + wide for wide in more[1:]])
