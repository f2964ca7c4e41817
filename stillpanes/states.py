"""States: what the panes can have at each width if some groups are never off by more than told."""

from stillpanes.basics import are_numbers, tupled
from stillpanes.bounds import bounds
from stillpanes.drawings import keeps
from stillpanes.errors import CanNot, TooMuch
from stillpanes.layouts import check_width, last

# as many states are looked through at each width
MOST_STATES = 4000


def states(layout, limits, width):
    """The set of the STATES of limits at width."""
    check_width(layout, width)
    found = _stages(layout, limits, width)
    return found[width] if width < len(found) else ()


def falls_at(layout, limits):
    """The least width without a STATE of limits, None if each has one."""
    found = table(layout, limits)
    return None if found[-1] else len(found) - 1


def table(layout, limits):
    """The TABLE of limits."""
    return tuple(_stages(layout, limits, last(layout)))


def _stages(layout, limits, final):
    """The list of the sets of the STATES at the widths up to final, or to the first one without a STATE."""
    found = [((0,) * len(layout[1]),)]
    while len(found) <= final and found[-1]:
        found.append(_next_stage(layout, limits, found[-1], len(found)))
    return found


def _next_stage(layout, limits, stage, width):
    """The set of the STATES at width behind these ones, those at the width ahead."""
    pairs = [(group, bounds(layout, group, width, off)) for group, off in limits]
    if any([pair is None for _, pair in pairs]):
        return ()
    found = set()
    for state in stage:
        for pane in _panes_that_can(state, pairs):
            found.add(one_more(state, pane))
        if len(found) > MOST_STATES:
            raise TooMuch()
    return tuple(sorted(found))


def _panes_that_can(state, pairs):
    """The panes that can get a pixel behind state such that each group comes within its pair."""
    panes = list(range(len(state)))
    for group, (least, most) in pairs:
        # bounds never fall, and grow by one at most: so nobody has more than most, or lacks two
        many = sum([state[pane] for pane in group])
        if many == most:
            panes = [pane for pane in panes if pane not in group]
        elif many < least:
            panes = [pane for pane in panes if pane in group]
    return panes


def one_more(state, pane):
    """state with a pixel more for pane."""
    return state[:pane] + (state[pane] + 1,) + state[pane + 1:]


def _ways_on(found):
    """For each width a dict that tells from how many rows of panes each STATE goes on to the last of these sets."""
    ways = [{state: 1 for state in found[-1]}]
    for stage in reversed(found[:-1]):
        behind = ways[-1]
        ways.append({state: sum([many for _, many in steps_on(state, behind)]) for state in stage})
    ways.reverse()
    return ways


def steps_on(state, behind):
    """The pairs (pane, ways) of the panes that lead from state to one of behind, ascending."""
    found = []
    for pane in range(len(state)):
        more = one_more(state, pane)
        if more in behind:
            found.append((pane, behind[more]))
    return found


def how_many_drawings(layout, limits):
    """How many DRAWINGS keep limits."""
    found = _stages(layout, limits, last(layout))
    return _ways_on(found)[0][found[0][0]]


def some_drawing(layout, limits):
    """A DRAWING that keeps limits."""
    return least_drawing(layout, limits)


def least_drawing(layout, limits):
    """The least DRAWING that keeps limits."""
    return drawing_at(layout, limits, 0)


def drawing_at(layout, limits, number):
    """The DRAWING of this number, from 0, of those that keep limits, ascending."""
    found = _stages(layout, limits, last(layout))
    ways = _ways_on(found)
    state = found[0][0]
    if not 0 <= number < ways[0][state]:
        raise CanNot()
    drawing = []
    for behind in ways[1:]:
        for pane, many in steps_on(state, behind):
            if number < many:
                drawing.append(pane)
                break
            number -= many
        state = one_more(state, drawing[-1])
    return tuple(drawing)


def drawing_number(layout, limits, drawing):
    """The number of drawing among the DRAWINGS that keep limits, ascending."""
    found = _stages(layout, limits, last(layout))
    if not keeps(layout, drawing, limits):
        raise CanNot()
    state = found[0][0]
    number = 0
    for own, behind in zip(drawing, _ways_on(found)[1:]):
        number += sum([many for pane, many in steps_on(state, behind) if pane < own])
        state = one_more(state, own)
    return number


def is_table(layout, limits, thing):
    """Whether thing is the TABLE of limits."""
    told = table(layout, limits)
    if not isinstance(thing, tuple) or not all([isinstance(stage, tuple) for stage in thing]):
        return False
    return all([are_numbers(state) for stage in thing for state in stage]) and thing == told


def least_off(layout, limits, groups):
    """The least number such that a DRAWING keeps limits and has each of groups off by at most so much."""
    found = _stages(layout, limits, last(layout))
    if not found[-1]:
        raise CanNot()
    worst = {found[0][0]: 0}
    for width in range(1, len(found)):
        ahead = worst
        worst = {own: max(_off_at(layout, groups, own, width), _least_ahead(own, ahead)) for own in found[width]}
    return min(worst.values())


def _off_at(layout, groups, state, width):
    """The greatest off of groups by state at width."""
    found = []
    for group in groups:
        wide = sum([layout[1][pane][width] for pane in group])
        found.append(abs(sum([state[pane] for pane in group]) * layout[0] - wide))
    return max(found)


def _least_ahead(state, worst):
    """The least that is told with a STATE from which state comes."""
    found = []
    for pane, many in enumerate(state):
        less = state[:pane] + (many - 1,) + state[pane + 1:]
        if less in worst:
            found.append(worst[less])
    return min(found)


def drawing_of_least(layout, limits, groups):
    """A DRAWING that keeps limits and has each of groups off by at most least_off."""
    most = least_off(layout, limits, groups)
    offs = {group: off for group, off in tupled(limits)}
    for group in tupled(groups):
        offs[group] = min(most, offs[group]) if group in offs else most
    return least_drawing(layout, tuple(sorted(offs.items())))
