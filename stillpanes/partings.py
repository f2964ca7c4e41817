"""One parting: the rows of a group in drawings that are snug for it and for all lone panes."""

from stillpanes.basics import is_number, is_tuple_of
from stillpanes.bounds import bounds_row, can_from, must_from
from stillpanes.errors import CanNot, TooMuch, Unfit
from stillpanes.follow import followed
from stillpanes.layouts import all_panes, check_width, exact_row, last, lone_split
from stillpanes.shown import drawing_of

# all_rows tells no more of them
MOST_ROWS = 2000


def by_theta(layout, group, theta):
    """The ROW with the exact width of group and theta, rounded down, at each width."""
    _check_part(layout, group)
    return tuple([(wide + theta) // layout[0] for wide in exact_row(layout, group)])


def growth(layout, group, low, high):
    """The GROWTH of group from low to high."""
    check_width(layout, low)
    check_width(layout, high)
    _check_part(layout, group)
    if low >= high:
        raise Unfit()
    return _growth_by(_three_tables(layout, group), low, high)


def _check_part(layout, group):
    """Unfit() if group has all panes."""
    if len(group) == len(layout[1]):
        raise Unfit()


def _others(layout, group):
    """All panes out of group."""
    return tuple([pane for pane in all_panes(layout) if pane not in group])


def _three_tables(layout, group):
    """The BOUNDS at all widths, by less than a pixel, of the panes of group, of all other ones, and of group."""
    off = layout[0] - 1
    inner = [bounds_row(layout, own, off) for own in lone_split(group)]
    outer = [bounds_row(layout, own, off) for own in lone_split(_others(layout, group))]
    return inner, outer, bounds_row(layout, group, off)


def _growth_by(tables, low, high):
    """The GROWTH from low to high by these three tables."""
    inner, outer, own = tables
    in_ends = [(pairs[low], pairs[high]) for pairs in inner]
    out_ends = [(pairs[low], pairs[high]) for pairs in outer]
    least = max(must_from(in_ends), high - low - can_from(out_ends))
    most = min(can_from(in_ends), high - low - must_from(out_ends))
    if low == 0:
        return max(least, own[high][0]), min(most, own[high][1])
    return least, most


def fits_row(layout, group, row):
    """Whether row fits."""
    _check_part(layout, group)
    return _first_unfit(layout, group, row) is None


def _first_unfit(layout, group, row):
    """A pair of widths between which row does not grow by GROWTH, None without."""
    tables = _three_tables(layout, group)
    for high in range(1, len(row)):
        for low in range(high):
            least, most = _growth_by(tables, low, high)
            if not least <= row[high] - row[low] <= most:
                return low, high
    return None


def why_unfit(layout, group, row):
    """A pair of widths between which row does not grow by GROWTH."""
    _check_part(layout, group)
    found = _first_unfit(layout, group, row)
    if found is None:
        raise CanNot()
    return found


def is_why_unfit(layout, group, row, thing):
    """Whether thing is a pair of widths between which row does not grow by GROWTH."""
    _check_part(layout, group)
    if not is_tuple_of(thing, 2) or not is_number(thing[0]) or not is_number(thing[1]):
        return False
    low, high = thing
    if not 0 <= low < high <= last(layout):
        return False
    least, most = growth(layout, group, low, high)
    return not least <= row[high] - row[low] <= most


def drawing_by(layout, group, row):
    """A DRAWING snug for all lone panes in which group has row."""
    if not fits_row(layout, group, row):
        raise CanNot()
    off = layout[0] - 1
    others = _others(layout, group)
    rest = tuple([width - many for width, many in enumerate(row)])
    rows = {}
    for panes, own in ((tuple(group), row), (others, rest)):
        for pane, made in zip(panes, followed(layout, lone_split(panes), own, off)):
            rows[pane] = made
    return drawing_of(layout, [rows[pane] for pane in all_panes(layout)])


def lowest_row(layout, group, wishes):
    """The ROW that fits and keeps wishes with the fewest pixels at each width."""
    closed = _closed_or_not(layout, group, wishes)
    return tuple([-row[0] for row in closed])


def highest_row(layout, group, wishes):
    """The ROW that fits and keeps wishes with the most pixels at each width."""
    return tuple(_closed_or_not(layout, group, wishes)[0])


def _steps(layout, group, wishes):
    """The table of the greatest numbers by which a ROW can grow from each width to each other one.

    On from low to high that is the most of GROWTH and wishes, back from high to low 0 less the least.
    """
    tables = _three_tables(layout, group)
    wished = {(low, high): (least, most) for low, high, least, most in wishes}
    steps = [[0] * (last(layout) + 1) for _ in range(last(layout) + 1)]
    for high in range(1, last(layout) + 1):
        for low in range(high):
            least, most = _growth_by(tables, low, high)
            if (low, high) in wished:
                least = max(least, wished[low, high][0])
                most = min(most, wished[low, high][1])
            steps[low][high] = most
            steps[high][low] = -least
    return steps


def _closed_or_not(layout, group, wishes):
    """The table of the steps, each the least sum of all ways there; CanNot() if there is a RING."""
    _check_part(layout, group)
    closed = _steps(layout, group, wishes)
    widths = range(len(closed))
    for middle in widths:
        through = closed[middle]
        for start in widths:
            first = closed[start][middle]
            closed[start] = [min(own, first + more) for own, more in zip(closed[start], through)]
    if any([closed[width][width] < 0 for width in widths]):
        raise CanNot()
    return closed


def all_rows(layout, group):
    """The list, ascending, of the ROWS that fit."""
    closed = _closed_or_not(layout, group, ())
    found = [(0,)]
    for width in range(1, len(closed)):
        longer = []
        # each start that keeps the closed steps leads to a ROW: so a start too many is a ROW too many
        for start in found:
            least = max([many - closed[width][low] for low, many in enumerate(start)])
            most = min([many + closed[low][width] for low, many in enumerate(start)])
            longer.extend([start + (many,) for many in range(least, most + 1)])
        if len(longer) > MOST_ROWS:
            raise TooMuch()
        found = longer
    return found


def ring(layout, group, wishes):
    """A RING of wishes."""
    _check_part(layout, group)
    steps = _steps(layout, group, wishes)
    widths = range(len(steps))
    sums = [0 for _ in widths]
    ahead = [0 for _ in widths]
    lowered = []
    for _ in widths:
        lowered = _lower(steps, sums, ahead)
    if not lowered:
        raise CanNot()
    at = lowered[0]
    for _ in widths:
        at = ahead[at]
    # so many steps back lead into a RING, wherever they begin
    found = [at]
    while len(found) == 1 or found[-1] != at:
        found.append(ahead[found[-1]])
    found.reverse()
    return tuple(found)


def _lower(steps, sums, ahead):
    """The widths whose sums get less by one step more, from the width that is kept in ahead."""
    lowered = []
    for start, row in enumerate(steps):
        for end, step in enumerate(row):
            if sums[start] + step < sums[end]:
                sums[end] = sums[start] + step
                ahead[end] = start
                lowered.append(end)
    return lowered


def is_ring(layout, group, wishes, thing):
    """Whether thing is a RING of wishes."""
    _check_part(layout, group)
    if not isinstance(thing, tuple) or len(thing) < 3 or not all([is_number(own) for own in thing]):
        return False
    if thing[0] != thing[-1] or len(set(thing)) != len(thing) - 1:
        return False
    if min(thing) < 0 or max(thing) > last(layout):
        return False
    steps = _steps(layout, group, wishes)
    return sum([steps[start][end] for start, end in zip(thing, thing[1:])]) < 0
