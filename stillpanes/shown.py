"""Shown tables: any widths that are drawn, and how few of their pixels can be lost again."""

from stillpanes.basics import are_numbers, is_number_from, is_tuple_of
from stillpanes.bounds import bounds
from stillpanes.drawings import off_of, row_of
from stillpanes.errors import CanNot, TooMuch
from stillpanes.layouts import all_panes, exact, last

# as many tuples of pixels are looked through at each width
MOST_TUPLES = 200


def is_shown(layout, thing):
    """Whether thing is a SHOWN table of layout."""
    if not is_tuple_of(thing, len(layout[1])):
        return False
    return all([are_numbers(row) and len(row) == last(layout) + 1 for row in thing])


def trembles(shown):
    """The set of the pairs (width, pane) such that pane trembles there."""
    found = []
    for pane, row in enumerate(shown):
        for width in range(1, len(row)):
            if row[width] < row[width - 1]:
                found.append((width, pane))
    return tuple(sorted(found))


def first_tremble(shown):
    """The least pair (width, pane) such that pane trembles there, None without."""
    return min(trembles(shown), default=None)


def gapes(shown):
    """The set of the widths at which the panes do not add up to the width."""
    return tuple([width for width, own in enumerate(zip(*shown)) if sum(own) != width])


def falls(shown):
    """By how many pixels panes have less than at the width ahead, all added up."""
    columns = list(zip(*shown))
    return sum([_falls_between(low, high) for low, high in zip(columns, columns[1:])])


def _falls_between(stand, other):
    """By how many pixels panes have less in other than in stand."""
    return sum([many - more for many, more in zip(stand, other) if many > more])


def shown_by(layout, drawing):
    """The table of the ROWS of all lone panes in drawing."""
    return tuple([row_of(layout, drawing, (pane,)) for pane in all_panes(layout)])


def drawing_of(layout, shown):
    """The DRAWING with the table shown."""
    if trembles(shown) or gapes(shown):
        raise CanNot()
    columns = list(zip(*shown))
    return tuple([_first_gain(low, high) for low, high in zip(columns, columns[1:])])


def _first_gain(stand, other):
    """The first pane with more pixels in other than in stand."""
    gains = [more > many for many, more in zip(stand, other)]
    return gains.index(True)


def shown_keeps(layout, shown, limits):
    """Whether the table shown keeps limits."""
    return all([off_of(layout, group, _together(shown, group)) <= most for group, most in limits])


def _together(shown, group):
    """How many pixels the panes of group have together at each width."""
    rows = [shown[pane] for pane in group]
    return [sum(own) for own in zip(*rows)]


def fewest_falls(layout, limits):
    """The fewest falls of a table that keeps limits and never gapes."""
    return _least_at_end(levels(layout, limits))


def least_shown(layout, limits):
    """A table that keeps limits and never gapes, with as few falls as can be."""
    found = levels(layout, limits)
    number = _least_at_end(found)
    stands = [stand for stand, told in found[-1] if told == number][:1]
    for level in reversed(found[:-1]):
        stand, number = _step_back(level, stands[-1], number)
        stands.append(stand)
    stands.reverse()
    return tuple(zip(*stands))


def _step_back(level, stand, number):
    """The first pair of level, the one at the width ahead, by which stand has its number."""
    steps = [(own, told) for own, told in level if told + _falls_between(own, stand) == number]
    return steps[0]


def is_least_shown(layout, limits, thing):
    """Whether thing is a table that keeps limits and never gapes, with as few falls as can be."""
    fewest = fewest_falls(layout, limits)
    if not is_shown(layout, thing) or gapes(thing) or not shown_keeps(layout, thing, limits):
        return False
    return falls(thing) == fewest


def levels(layout, limits):
    """LEVELS of limits that tell just the fewest falls with each stand."""
    stands = _all_stands(layout, limits)
    found = [tuple([(stand, 0) for stand in stands[0]])]
    for own in stands[1:]:
        found.append(_next_level(found[-1], own))
    return tuple(found)


def are_levels(layout, limits, thing):
    """Whether thing are LEVELS of limits whose least number at LAST is fewest_falls."""
    best = levels(layout, limits)
    if not is_tuple_of(thing, len(best)):
        return False
    if not all([_is_level(own, level) for own, level in zip(thing, best)]) or _least_at_end(thing[:1]) > 0:
        return False
    if not all([_none_above(own, level) for level, own in zip(thing, thing[1:])]):
        return False
    return _least_at_end(thing) == _least_at_end(best)


def _is_level(thing, level):
    """Whether thing are pairs (stand, number) with the stands of level."""
    if not is_tuple_of(thing, len(level)):
        return False
    for own, pair in zip(thing, level):
        if not is_tuple_of(own, 2) or not are_numbers(own[0]) or not is_number_from(own[1], 0):
            return False
        if own[0] != pair[0]:
            return False
    return True


def _none_above(own, level):
    """Whether no number of own is above what level, at the width ahead, lets it be."""
    stands = [stand for stand, _ in own]
    most = _next_level(level, stands)
    return all([pair[1] <= top[1] for pair, top in zip(own, most)])


def _least_at_end(found):
    """The least number of the last one of these levels."""
    return min([number for _, number in found[-1]])


def _next_level(level, stands):
    """The pairs of stands and the greatest numbers that LEVELS can tell with them behind level."""
    told = dict(level)
    ahead = sorted([(number, stand) for stand, number in level])
    return tuple([(stand, _least_to(told, ahead, stand)) for stand in stands])


def _least_to(told, ahead, stand):
    """The least sum of the number of a stand ahead and its falls to stand."""
    found = [told[own] for own in _one_less(stand) if own in told]
    least = min(found, default=None)
    for number, own in ahead:
        # all stands but those with one pixel less fall by 1 at least
        if least is not None and number + 1 >= least:
            return least
        total = number + _falls_between(own, stand)
        if least is None or total < least:
            least = total
    return least


def _one_less(stand):
    """The tuples with one pixel less for one pane; one with -1 is no stand."""
    return [stand[:pane] + (many - 1,) + stand[pane + 1:] for pane, many in enumerate(stand)]


def _all_stands(layout, limits):
    """For each width the list of the stands of limits, ascending."""
    lone = {group[0]: off for group, off in limits if len(group) == 1}
    wider = [(group, off) for group, off in limits if len(group) > 1]
    # all widths, for TooMuch() comes ahead of CanNot()
    by_lone = [_tuples_by(_ranges_at(layout, lone, width), width) for width in range(last(layout) + 1)]
    stands = []
    for width, found in enumerate(by_lone):
        stands.append([stand for stand in found if _stand_keeps(layout, stand, wider, width)])
    if not all(stands):
        raise CanNot()
    return stands


def _ranges_at(layout, lone, width):
    """For each pane the pair of the least and the greatest number of pixels by the offs of lone, or None."""
    found = []
    for pane in all_panes(layout):
        pair = bounds(layout, (pane,), width, lone[pane]) if pane in lone else (0, width)
        found.append(pair)
    return found


def _tuples_by(pairs, width):
    """The list of the tuples within pairs that come to width, ascending; TooMuch() if they are too many."""
    if None in pairs:
        return []
    found = [((), width)]
    for pane, (least, most) in enumerate(pairs):
        # what the panes behind take at least and at most: so each start leads to a tuple, and is one at least
        low = sum([pair[0] for pair in pairs[pane + 1:]])
        high = sum([pair[1] for pair in pairs[pane + 1:]])
        longer = []
        for start, rest in found:
            for many in range(max(least, rest - high), min(most, rest - low) + 1):
                longer.append((start + (many,), rest - many))
        if len(longer) > MOST_TUPLES:
            raise TooMuch()
        found = longer
    return [stand for stand, _ in found]


def _stand_keeps(layout, stand, limits, width):
    """Whether at width the pixels of stand keep limits."""
    for group, off in limits:
        many = sum([stand[pane] for pane in group])
        if abs(many * layout[0] - exact(layout, group, width)) > off:
            return False
    return True
