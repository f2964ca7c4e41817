"""Bounds: how many pixels a group may have by an off, and which pixels must come, or can."""

from stillpanes.errors import CanNot, Unfit
from stillpanes.layouts import check_width, exact, exact_row, last


def bounds(layout, group, width, off):
    """The BOUNDS of group at width."""
    check_width(layout, width)
    return _bounds_by(layout[0], exact(layout, group, width), width, off)


def bounds_row(layout, group, off):
    """The tuple of the BOUNDS of group at all widths."""
    wides = exact_row(layout, group)
    return tuple([_bounds_by(layout[0], wide, width, off) for width, wide in enumerate(wides)])


def _bounds_by(parts, wide, width, off):
    """The BOUNDS of what is so many parts wide at width."""
    if width == 0:
        return 0, 0
    least = max(0, -((off - wide) // parts))
    most = (wide + off) // parts
    return None if least > most else (least, most)


def bare(layout, group, off):
    """The set of the widths at which the BOUNDS of group are None."""
    return tuple([width for width, pair in enumerate(bounds_row(layout, group, off)) if pair is None])


def span(layout, group, number, off):
    """The SPAN of the pixel of group with this number."""
    return _span_in(bounds_row(layout, group, off), number)


def _span_in(pairs, number):
    """The SPAN of the pixel with this number, by the BOUNDS at all widths."""
    first = [width for width, pair in enumerate(pairs) if pair is not None and pair[1] >= number]
    final = [width for width, pair in enumerate(pairs) if pair is not None and pair[0] >= number]
    return min(first, default=None), min(final, default=None)


def comes(row, number):
    """The width at which the pixel of row with this number comes, None if it doesn't."""
    for width, many in enumerate(row):
        if many >= number:
            return width
    return None


def in_spans(layout, group, row, off):
    """Whether no BOUNDS of group are None and all pixels of row come within their SPANS."""
    pairs = bounds_row(layout, group, off)
    if None in pairs:
        return False
    # those with a last are just the first ones, as many as the least number at the LAST
    many = max(row[-1], pairs[-1][0])
    return all([_comes_within(_span_in(pairs, number), comes(row, number)) for number in range(1, many + 1)])


def _comes_within(pair, width):
    """Whether a pixel that comes at width, maybe None, comes within the SPAN that is pair."""
    first, final = pair
    if width is None:
        return final is None
    return first is not None and first <= width and (final is None or width <= final)


def least_row(layout, group, off):
    """The ROW off by at most off, for group, with the least number at each width."""
    return tuple([least for least, _ in _bounds_or_not(layout, group, off)])


def most_row(layout, group, off):
    """The ROW off by at most off, for group, with the greatest number at each width."""
    # the window has no more pixels than it is wide, though more would be near enough
    return tuple([min(width, pair[1]) for width, pair in enumerate(_bounds_or_not(layout, group, off))])


def _bounds_or_not(layout, group, off):
    """The tuple of the BOUNDS of group at all widths; CanNot() if some are None."""
    pairs = bounds_row(layout, group, off)
    if None in pairs:
        raise CanNot()
    return pairs


def how_many_rows(layout, group, off):
    """How many ROWS are off by at most off for group."""
    ways = [1] + [0] * last(layout)
    for pair in bounds_row(layout, group, off)[1:]:
        ways = [0 if pair is None else _ways_to(ways, pair, many) for many in range(len(ways))]
    return sum(ways)


def _ways_to(ways, pair, many):
    """In how many ways a ROW gets to so many pixels within pair, ways being those at the width ahead."""
    least, most = pair
    if many < least or many > most:
        return 0
    return ways[many] + (ways[many - 1] if many > 0 else 0)


def must(layout, split, low, high, off):
    """By how many pixels at least ROWS of split grow together from low to high."""
    return must_from(_pairs_at(layout, split, low, high, off))


def can(layout, split, low, high, off):
    """By how many pixels at most ROWS of split grow together from low to high."""
    return can_from(_pairs_at(layout, split, low, high, off))


def slack(layout, split, row, low, high, off):
    """What row grows from low to high less must, and can less that."""
    ends = _pairs_at(layout, split, low, high, off)
    grows = row[high] - row[low]
    return grows - must_from(ends), can_from(ends) - grows


def _pairs_at(layout, split, low, high, off):
    """For each GROUP of split the pair of its BOUNDS at low and at high."""
    check_width(layout, low)
    check_width(layout, high)
    if high <= low:
        raise Unfit()
    ends = [(bounds(layout, group, low, off), bounds(layout, group, high, off)) for group in split]
    if any([None in pair for pair in ends]):
        raise Unfit()
    return ends


def must_from(ends):
    """must by these pairs of BOUNDS."""
    return sum([max(0, at_high[0] - at_low[1]) for at_low, at_high in ends])


def can_from(ends):
    """can by these pairs of BOUNDS."""
    return sum([max(0, at_high[1] - at_low[0]) for at_low, at_high in ends])


def crowded(layout, split, row, off):
    """The set of all PRESSES of row, for split."""
    table = [bounds_row(layout, group, off) for group in split]
    bares = []
    for number, pairs in enumerate(table):
        bares.extend([("bare", number, width) for width, pair in enumerate(pairs) if pair is None])
    if bares:
        return tuple(bares)
    found = []
    for high in range(1, len(row)):
        for low in range(high):
            found.extend(_presses_between(table, row, low, high))
    return tuple(sorted(found))


def _presses_between(table, row, low, high):
    """The PRESSES of row from low to high, by the BOUNDS of each GROUP at all widths, none of them None."""
    ends = [(pairs[low], pairs[high]) for pairs in table]
    grows = row[high] - row[low]
    found = []
    if must_from(ends) > grows:
        found.append(("more", low, high))
    if can_from(ends) < grows:
        found.append(("fewer", low, high))
    return found
