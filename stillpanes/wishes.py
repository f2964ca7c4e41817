"""Wishes: which pixels are to go to which panes, and what is sure, what can be and what never is by them."""

from stillpanes.basics import are_numbers, ascends, check_place, is_tuple_of, tupled
from stillpanes.errors import CanNot
from stillpanes.layouts import all_panes, check_width, last
from stillpanes.states import one_more, table


def are_wishes(layout, thing):
    """Whether thing are WISHES of layout."""
    if not isinstance(thing, tuple) or not all([_is_wish(layout, own) for own in thing]):
        return False
    # whoever ascends by the pixels alone ascends, and has no pixel twice
    return ascends([pixel for pixel, _ in thing])


def _is_wish(layout, thing):
    """Whether thing is a pair (pixel, pane) as WISHES have."""
    if not is_tuple_of(thing, 2) or not are_numbers(thing):
        return False
    return thing[0] < last(layout) and thing[1] < len(layout[1])


def can_be(layout, limits, wishes):
    """Whether there is a good DRAWING."""
    return bool(_leading(_stages(layout, limits), _choices(layout, wishes))[0])


def _stages(layout, limits):
    """For each width a dict with the STATES of limits there; an empty one from the first width without a STATE on."""
    found = table(layout, limits)
    stages = [{state: True for state in stage} for stage in found]
    return stages + [{} for _ in range(last(layout) + 1 - len(found))]


def _choices(layout, wishes):
    """For each pixel the tuple of the panes that wishes let have it."""
    wished = {pixel: (pane,) for pixel, pane in wishes}
    every = all_panes(layout)
    return [wished.get(pixel, every) for pixel in range(last(layout))]


def _leading(stages, choices):
    """For each width a dict with those of its STATES from which these choices lead to the LAST."""
    leads = list(stages)
    for pixel in reversed(range(len(choices))):
        behind = leads[pixel + 1]
        leads[pixel] = {state: True for state in stages[pixel] if _leads_into(state, choices[pixel], behind)}
    return leads


def _leads_into(state, panes, behind):
    """Whether a pixel for one of these panes leads from state to one of behind."""
    return any([one_more(state, pane) in behind for pane in panes])


def _reached(ahead, panes, behind):
    """A dict with those STATES of behind to which a pixel for one of these panes leads from one of ahead."""
    found = {}
    for state in ahead:
        for pane in panes:
            more = one_more(state, pane)
            if more in behind:
                found[more] = True
    return found


def _good_stages(layout, limits, wishes):
    """For each width a dict with the STATES that good DRAWINGS have there."""
    choices = _choices(layout, wishes)
    leads = _leading(_stages(layout, limits), choices)
    good = leads[:1]
    for panes, behind in zip(choices, leads[1:]):
        good.append(_reached(good[-1], panes, behind))
    return good


def _good_or_not(layout, limits, wishes):
    """The same; CanNot() if there is no good DRAWING."""
    good = _good_stages(layout, limits, wishes)
    if not good[0]:
        raise CanNot()
    return good


def good_drawing(layout, limits, wishes):
    """The least good DRAWING."""
    good = _good_or_not(layout, limits, wishes)
    state = (0,) * len(layout[1])
    drawing = []
    for panes, behind in zip(_choices(layout, wishes), good[1:]):
        able = [pane for pane in panes if one_more(state, pane) in behind]
        drawing.append(able[0])
        state = one_more(state, able[0])
    return tuple(drawing)


def _takers(layout, limits, wishes):
    """For each pixel the set of the panes that have it in good DRAWINGS."""
    good = _good_stages(layout, limits, wishes)
    found = []
    for pixel, panes in enumerate(_choices(layout, wishes)):
        able = [pane for pane in panes if _reached(good[pixel], (pane,), good[pixel + 1])]
        found.append(tuple(able))
    return found


def who_gets(layout, limits, wishes, pixel):
    """The set of the panes that have pixel in good DRAWINGS."""
    check_place(pixel, last(layout))
    return _takers(layout, limits, wishes)[pixel]


def sure_pixels(layout, limits, wishes):
    """The set of the pairs (pixel, pane) that all good DRAWINGS have."""
    takers = _takers(layout, limits, wishes)
    # without pixels the one DRAWING is good
    if not all(takers):
        raise CanNot()
    return _sure(takers)


def _sure(takers):
    """The set of the pairs (pixel, pane) of the pixels that just one pane can have."""
    return tuple([(pixel, panes[0]) for pixel, panes in enumerate(takers) if len(panes) == 1])


def never(layout, limits, wishes):
    """The set of the pairs (pixel, pane) that no good DRAWING has."""
    found = []
    for pixel, panes in enumerate(_takers(layout, limits, wishes)):
        found.extend([(pixel, pane) for pane in all_panes(layout) if pane not in panes])
    return tuple(found)


def pixels_between(layout, limits, wishes, group, width):
    """The pair of the least and the greatest number of pixels that group has at width in good DRAWINGS."""
    check_width(layout, width)
    good = _good_or_not(layout, limits, wishes)
    found = [sum([state[pane] for pane in group]) for state in good[width]]
    return min(found), max(found)


def forced_by(layout, limits, wishes, pixel, pane):
    """The set of the pairs of other pixels that are sure if pane gets pixel, too, and not without."""
    check_place(pixel, last(layout))
    check_place(pane, len(layout[1]))
    ahead = _takers(layout, limits, wishes)
    if pane not in ahead[pixel]:
        raise CanNot()
    sure = _sure(ahead)
    behind = _takers(layout, limits, list(wishes) + [(pixel, pane)])
    return tuple([own for own in _sure(behind) if own[0] != pixel and own not in sure])


def clash(layout, limits, wishes):
    """A CLASH: each wish, from the first one on, is left out if without it there is no good DRAWING either."""
    stages = _stages(layout, limits)
    choices = _choices(layout, wishes)
    leads = _leading(stages, choices)
    if leads[0]:
        raise CanNot()
    wished = {pixel: pane for pixel, pane in wishes}
    every = all_panes(layout)
    kept = []
    ahead = stages[0]
    for pixel, panes in enumerate(choices):
        # those that are kept lead to ahead, all wishes behind the pixel on from leads
        if pixel in wished and _reached(ahead, every, leads[pixel + 1]):
            kept.append((pixel, wished[pixel]))
            ahead = _reached(ahead, panes, stages[pixel + 1])
        else:
            ahead = _reached(ahead, every, stages[pixel + 1])
    return tuple(kept)


def is_clash(layout, limits, wishes, thing):
    """Whether thing is a CLASH."""
    stages = _stages(layout, limits)
    wishes = tupled(wishes)
    if not are_wishes(layout, thing) or not all([own in wishes for own in thing]):
        return False
    choices = _choices(layout, thing)
    leads = _leading(stages, choices)
    if leads[0]:
        return False
    wished = {pixel: pane for pixel, pane in thing}
    every = all_panes(layout)
    ahead = stages[0]
    for pixel, panes in enumerate(choices):
        if pixel in wished and not _reached(ahead, every, leads[pixel + 1]):
            return False
        ahead = _reached(ahead, panes, stages[pixel + 1])
    return True
