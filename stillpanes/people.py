"""Roundings that people use, and where panes tremble by them."""

from math import comb

from stillpanes.basics import tupled
from stillpanes.boxes import things_of
from stillpanes.drawings import off_of, off_row
from stillpanes.errors import TooMuch, Unfit
from stillpanes.layouts import all_panes, exact
from stillpanes.rules import by_shares
from stillpanes.shown import falls, first_tremble, gapes, trembles

WAYS = ("borders", "running", "floors")
# as many tuples of shares are looked through
MOST_SHARES = 500


def by_borders(layout):
    """The table in which each border lies at the nearest whole number of pixels."""
    return _by_borders(layout, layout[0])


def by_running(layout):
    """The table in which each border lies at the whole number of pixels at or below it."""
    return _by_borders(layout, 0)


def _by_borders(layout, halves):
    """The table in which each border, and so many half parts more, is rounded down."""
    parts, rows = layout
    columns = []
    for wides in zip(*rows):
        places = [0]
        border = 0
        for wide in wides:
            border += wide
            places.append((2 * border + halves) // (2 * parts))
        columns.append([place - ahead for ahead, place in zip(places, places[1:])])
    return tuple(zip(*columns))


def by_floors(layout):
    """The table in which at each width its pixels are shared out to the panes."""
    rows = layout[1]
    columns = [_shared_out(width, wides) for width, wides in enumerate(zip(*rows))]
    return tuple(zip(*columns))


def _shared_out(many, wides):
    """The list of what each thing gets if so many pixels are shared out by these exact widths."""
    total = sum(wides)
    if total == 0:
        return [0 for _ in wides]
    shared = [many * wide // total for wide in wides]
    ranked = sorted([(own * total - many * wide, place) for place, (own, wide) in enumerate(zip(shared, wides))])
    left = many - sum(shared)
    for _, place in ranked[:left]:
        shared[place] += 1
    return shared


def by_nests(layout, boxes):
    """The table in which at each width its pixels are shared out from box to box."""
    boxes = tupled(boxes)
    every = all_panes(layout)
    # whoever shares out has got its pixels from one with more panes
    holders = [every] + sorted(list(boxes), key=len, reverse=True)
    told = [(holder, things_of(layout, boxes, holder)) for holder in holders]
    columns = []
    for width in range(len(layout[1][0])):
        have = {every: width}
        for holder, things in told:
            wides = [exact(layout, thing, width) for thing in things]
            for thing, own in zip(things, _shared_out(have[holder], wides)):
                have[thing] = own
        columns.append([have[(pane,)] for pane in every])
    return tuple(zip(*columns))


def shown_as(layout, way):
    """The table that this way tells."""
    if way == "borders":
        return by_borders(layout)
    if way == "running":
        return by_running(layout)
    if way == "floors":
        return by_floors(layout)
    raise Unfit()


def troubles(layout, shown, off):
    """The set of all TROUBLES of shown."""
    found = [(width, "gapes", 0) for width in gapes(shown)]
    found.extend([(width, "trembles", pane) for width, pane in trembles(shown)])
    for pane, row in enumerate(shown):
        offs = off_row(layout, (pane,), row)
        found.extend([(width, "off", pane) for width, own in enumerate(offs) if own > off])
    return tuple(sorted(found))


def first_trouble(layout, shown, off):
    """The least TROUBLE of shown, None without."""
    return min(troubles(layout, shown, off), default=None)


def worst_off(layout, shown):
    """The greatest off of a pane in shown."""
    return max([off_of(layout, (pane,), row) for pane, row in enumerate(shown)])


def falls_in_all(shown):
    """How many pixels panes lose, all panes and widths added up."""
    return falls(shown)


def quiet_to(shown):
    """The greatest width to which no pane trembles."""
    first = first_tremble(shown)
    return len(shown[0]) - 1 if first is None else first[0] - 1


def trembling_shares(way, panes, total, last):
    """The list of the tuples of so many shares, together total, by which a pane trembles somewhere."""
    if way not in WAYS:
        raise Unfit()
    if comb(total - 1, panes - 1) > MOST_SHARES:
        raise TooMuch()
    return [shares for shares in _all_shares(panes, total) if trembles(shown_as(by_shares(shares, last), way))]


def _all_shares(panes, total):
    """The list of the tuples of so many numbers from 1 that come to total, ascending."""
    found = [()]
    for behind in reversed(range(1, panes)):
        longer = []
        for start in found:
            longer.extend([start + (own,) for own in range(1, total - sum(start) - behind + 1)])
        found = longer
    return [start + (total - sum(start),) for start in found]
