"""Changes of a layout, and how few pixels move from a drawing to one that keeps limits."""

from stillpanes.basics import are_numbers, check_place, is_number_from, is_tuple_of, tupled
from stillpanes.bounds import bounds_row
from stillpanes.drawings import is_drawing, keeps, row_of
from stillpanes.errors import CanNot, Unfit
from stillpanes.layouts import check_width, is_layout, last
from stillpanes.states import one_more, steps_on, table
from stillpanes.wishes import can_be, never


def is_change(thing):
    """Whether thing is a CHANGE, by its form."""
    if not isinstance(thing, tuple) or not thing:
        return False
    word, told = thing[0], thing[1:]
    if word == "split":
        return is_tuple_of(told, 2) and is_number_from(told[0], 0) and are_numbers(told[1])
    if not are_numbers(told):
        return False
    if word == "exchange":
        return len(told) == 2 and told[0] < told[1]
    if word == "give":
        return len(told) == 4 and told[3] > 0
    return word == "out" and len(told) == 2


def changed(layout, change):
    """The LAYOUT behind change."""
    parts, rows = tupled(layout)
    change = tupled(change)
    _check_places(layout, change)
    behind = (parts, tuple(_rows_behind(list(rows), change)))
    if not is_layout(behind):
        raise Unfit()
    return behind


def _check_places(layout, change):
    """NoPlace(place) for the first pane of change, then for its width, that layout has not; Unfit() for panes alike."""
    panes = change[1:2] if change[0] == "split" else change[1:3]
    for pane in panes:
        check_place(pane, len(layout[1]))
    if change[0] == "give":
        check_width(layout, change[3])
    if len(panes) == 2 and panes[0] == panes[1]:
        raise Unfit()


def _rows_behind(rows, change):
    """The list of the rows of all panes behind change; Unfit() if a row has not just as many widths."""
    word, pane, told = change[:3]
    if word == "split":
        if len(told) != len(rows[pane]):
            raise Unfit()
        rest = tuple([wide - own for wide, own in zip(rows[pane], told)])
        return rows[:pane] + [told, rest] + rows[pane + 1:]
    if word == "exchange":
        rows[pane], rows[told] = rows[told], rows[pane]
    elif word == "give":
        rows[pane] = _more_from(rows[pane], change[3], -change[4])
        rows[told] = _more_from(rows[told], change[3], change[4])
    else:
        rows[told] = tuple([wide + own for wide, own in zip(rows[told], rows[pane])])
        rows = rows[:pane] + rows[pane + 1:]
    return rows


def _more_from(row, width, many):
    """row with so many parts more from this width on."""
    return row[:width] + tuple([wide + many for wide in row[width:]])


def drawing_behind(layout, drawing, change):
    """The DRAWING of the LAYOUT behind change in which each pixel stays with its pane."""
    changed(layout, change)
    return tuple([_pane_behind(pane, change) for pane in drawing])


def _pane_behind(pane, change):
    """The number that pane, or who has its pixels then, has behind change."""
    word, one, other = change[:3]
    if word == "exchange" and pane in (one, other):
        return one + other - pane
    if word == "out":
        heir = other if pane == one else pane
        return heir - 1 if heir > one else heir
    if word == "split" and pane > one:
        return pane + 1
    return pane


def moved(layout, drawing, other):
    """The set of the pixels that move from drawing to other."""
    return tuple([pixel for pixel, (pane, own) in enumerate(zip(drawing, other)) if pane != own])


def _costs(layout, drawing, limits):
    """For each width a dict with the STATES of limits that lead to the LAST.

    With each is told how few of the pixels behind it can move then.
    """
    found = table(layout, limits)
    costs = [{} for _ in range(last(layout) + 1)]
    if found[-1]:
        costs[-1] = {state: 0 for state in found[-1]}
        for pixel in reversed(range(last(layout))):
            costs[pixel] = _costs_ahead(found[pixel], costs[pixel + 1], drawing[pixel])
    return costs


def _costs_ahead(stage, behind, stays):
    """The same for the STATES of stage, by those of the next width, if the pixel between stays with this pane."""
    found = {}
    for state in stage:
        costs = [cost + _cost(pane, stays) for pane, cost in steps_on(state, behind)]
        if costs:
            found[state] = min(costs)
    return found


def _cost(pane, stays):
    """How many pixels move if pane gets the one that stays with the other one."""
    return 0 if pane == stays else 1


def _costs_or_not(layout, drawing, limits):
    """What _costs tells; CanNot() if no DRAWING keeps limits."""
    costs = _costs(layout, drawing, limits)
    if not costs[0]:
        raise CanNot()
    return costs


def _first_state(layout):
    """The STATE at the width 0."""
    return (0,) * len(layout[1])


def fewest_moved(layout, drawing, limits):
    """The fewest pixels that move from drawing to a DRAWING that keeps limits."""
    return _costs_or_not(layout, drawing, limits)[0][_first_state(layout)]


def least_moved(layout, drawing, limits):
    """A DRAWING that keeps limits to which as few pixels move as can be."""
    costs = _costs_or_not(layout, drawing, limits)
    state = _first_state(layout)
    panes = []
    for stays, behind in zip(drawing, costs[1:]):
        ranked = [(cost + _cost(pane, stays), pane) for pane, cost in steps_on(state, behind)]
        panes.append(min(ranked)[1])
        state = one_more(state, panes[-1])
    return tuple(panes)


def is_least_moved(layout, drawing, limits, thing):
    """Whether thing is a DRAWING that keeps limits to which as few pixels move as can be."""
    costs = _costs(layout, drawing, limits)
    if not is_drawing(layout, thing) or not keeps(layout, thing, limits):
        return False
    return len(moved(layout, drawing, thing)) == costs[0][_first_state(layout)]


def can_stay(layout, drawing, limits, pixels):
    """Whether all these pixels stay in some DRAWING that keeps limits."""
    return can_be(layout, limits, [(pixel, drawing[pixel]) for pixel in pixels])


def must_move(layout, drawing, limits):
    """The set of the pixels that stay in no DRAWING that keeps limits."""
    barred = never(layout, limits, ())
    return tuple([pixel for pixel, pane in enumerate(drawing) if (pixel, pane) in barred])


def stays_to(layout, drawing, limits):
    """The greatest number of first pixels that can stay together."""
    costs = _costs_or_not(layout, drawing, limits)
    state = _first_state(layout)
    for pixel, pane in enumerate(drawing):
        state = one_more(state, pane)
        if state not in costs[pixel + 1]:
            return pixel
    return len(drawing)


def out_by(layout, drawing, limits):
    """By how many pixels at most a GROUP of limits has more than the most, or fewer than the least, of its BOUNDS."""
    found = [0]
    for group, off in limits:
        pairs = bounds_row(layout, group, off)
        if None in pairs:
            raise CanNot()
        row = row_of(layout, drawing, group)
        found.extend([max(many - most, least - many) for many, (least, most) in zip(row, pairs)])
    return max(found)
