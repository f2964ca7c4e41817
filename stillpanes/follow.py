"""Behind a told row: rows of the groups of a split that come together to it, or a press that shows there are none."""

from stillpanes.basics import is_number, is_tuple_of
from stillpanes.bounds import bounds_row, crowded
from stillpanes.drawings import is_row, off_of
from stillpanes.errors import CanNot
from stillpanes.layouts import exact_row, split_group


def follows(layout, split, row, off):
    """Whether some ROWS follow row by off."""
    return rows_behind(layout, split, row, off) is not None


def followed(layout, split, row, off):
    """A tuple of ROWS that follow row by off."""
    rows = rows_behind(layout, split, row, off)
    if rows is None:
        raise CanNot()
    return rows


def rows_behind(layout, split, row, off):
    """ROWS that follow row by off, None if there are none.

    Each pixel goes to the group, of those that can have it, whose next pixel has the least last: if there are such
    ROWS, giving another one the pixel ahead of it never helps.
    """
    table = [bounds_row(layout, group, off) for group in split]
    if any([None in pairs for pairs in table]):
        return None
    stands = [[0] * len(split)]
    needs = [_needed_at(pairs, 1) for pairs in table]
    for width in range(1, len(row)):
        stand = list(stands[-1])
        if row[width] > row[width - 1]:
            number = _most_needing(table, needs, stand, width)
            if number is None:
                return None
            stand[number] += 1
            needs[number] = _needed_at(table[number], stand[number] + 1)
        stands.append(stand)
    rows = tuple(zip(*stands))
    return rows if all([_within(own, pairs) for own, pairs in zip(rows, table)]) else None


def _needed_at(pairs, number):
    """The last of the SPAN of the pixel with this number, by the BOUNDS at all widths; None is told as too wide."""
    for width, pair in enumerate(pairs):
        if pair[0] >= number:
            return width
    return len(pairs)


def _most_needing(table, needs, stand, width):
    """The number of the group that can have one pixel more at width and needs it first; None without."""
    can_have = [number for number, pairs in enumerate(table) if stand[number] < pairs[width][1]]
    ranked = [(needs[number], number) for number in can_have]
    return min(ranked)[1] if ranked else None


def _within(row, pairs):
    """Whether each number of row is within its BOUNDS."""
    return all([least <= many <= most for many, (least, most) in zip(row, pairs)])


def are_followed(layout, split, row, off, thing):
    """Whether thing is a tuple of ROWS that follow row by off."""
    if not is_tuple_of(thing, len(split)) or not all([is_row(layout, own) for own in thing]):
        return False
    if [sum(numbers) for numbers in zip(*thing)] != list(row):
        return False
    return all([off_of(layout, group, own) <= off for group, own in zip(split, thing)])


def press(layout, split, row, off):
    """A PRESS of row, for split, by off."""
    found = crowded(layout, split, row, off)
    if not found:
        raise CanNot()
    return found[0]


def is_press(layout, split, row, off, thing):
    """Whether thing is a PRESS of row, for split, by off."""
    if not is_tuple_of(thing, 3) or not is_number(thing[1]) or not is_number(thing[2]):
        return False
    return thing in crowded(layout, split, row, off)


def least_follow(layout, split, row):
    """The least off by which some ROWS follow row."""
    parts = layout[0]
    least = 0
    most = most_behind(parts, off_of(layout, split_group(split), row))
    while least < most:
        middle = (least + most) // 2
        if follows(layout, split, row, middle):
            most = middle
        else:
            least = middle + 1
    return least


def most_behind(parts, off):
    """By which off some ROWS follow each ROW that is off by at most off."""
    return (parts + 2 * max(off, (parts + 1) // 2)) // 2


def jumps(layout, split, row):
    """The set of the numbers from 1 to least_follow by which, as off, some BOUNDS are others than by 1 less."""
    most = least_follow(layout, split, row)
    found = set()
    for group in split:
        for wide in exact_row(layout, group)[1:]:
            for number in _jumps_of(layout[0], wide, most):
                found.add(number)
    return tuple(sorted(found))


def _jumps_of(parts, wide, most):
    """The numbers from 1 to most by which, as off, the BOUNDS of what is so wide are others than by 1 less."""
    # a number of pixels comes to be near enough above, or below: there from 0 pixels on alone
    above = list(range(parts - wide % parts, most + 1, parts))
    below = [number for number in range(wide % parts, min(wide, most) + 1, parts) if number > 0]
    return above + below
