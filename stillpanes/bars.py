"""Bars: layouts no drawing of which keeps limits of boxes and panes, and cases that show it."""

from itertools import combinations
from math import comb

from stillpanes.basics import are_numbers, is_number, is_tuple_of, tupled
from stillpanes.bounds import bounds_row
from stillpanes.boxes import held_groups, partings, things_of
from stillpanes.errors import CanNot, TooMuch, Unfit
from stillpanes.layouts import all_panes, last

# in halves of pixels: two boxes of two panes and a pane between, not all of which can be snug
BARRED_ROWS = ((0, 1, 1, 1, 1, 1, 1), (0, 0, 1, 2, 4, 5, 6), (0, 0, 1, 1, 1, 1, 2), (0, 1, 1, 1, 1, 1, 1),
               (0, 0, 0, 1, 1, 2, 2))
MOST_LOW_HIGH = 7
MOST_PAIRS = 150


def barred(panes, boxes):
    """A LAYOUT of so many panes no DRAWING of which is snug for all boxes and lone panes."""
    point = (1, ((0,),) * panes)
    sides = partings(point, boxes)
    if len(sides) < 2:
        raise CanNot()
    first, second = sorted(list(sides[:2]), key=len)
    if first[0] in second:
        # one within the other one: it and what is beside the other one lie apart
        second = [pane for pane in range(panes) if pane not in second]
    between = [pane for pane in range(panes) if pane not in first and pane not in second]
    rows = [(0,) * len(BARRED_ROWS[0])] * panes
    for pane, row in zip([first[0], first[1], between[0], second[0], second[1]], BARRED_ROWS):
        rows[pane] = row
    return 2, tuple(rows)


def low_high(low, high):
    """A LAYOUT, its boxes and limits of these and of all lone panes, which no DRAWING keeps."""
    if low + high > MOST_LOW_HIGH:
        raise TooMuch()
    parts, many = 2 * low * high, low + high - 1
    steps = []
    for numbers in combinations(range(many), low):
        steps.extend([(numbers, 2 * high)] * low)
    for numbers in combinations(range(many), high):
        steps.extend([(numbers, 2 * low)] * high)
    rows, boxes, limits = [], [], []
    for number in range(many):
        rows.extend(_two_rows(parts, parts // 2 + high - low, number, many, steps))
        boxes.append((2 * number, 2 * number + 1))
        limits.append((boxes[-1], parts - 1))
    for pane in range(2 * many):
        limits.append(((pane,), 3 * low * high - low - high - 1))
    return (parts, tuple(rows)), tuple(boxes), tuple(sorted(limits))


def _two_rows(parts, lasting, number, many, steps):
    """The exact widths of both panes of the box of this number of low_high: it comes to be a pixel wide at once."""
    first = [0] * (number + 1) + [lasting] * (many - number + len(steps))
    second = [0] * (number + 1) + [parts - lasting] * (many - number)
    for numbers, more in steps:
        second.append(second[-1] + more if number in numbers else second[-1])
    return [tuple(first), tuple(second)]


def low_high_cases(low, high):
    """CASES of the limits of low_high: which first panes have a pixel when the sets of low have grown."""
    if low + high > MOST_LOW_HIGH:
        raise TooMuch()
    many = low + high - 1
    return _cases_from(0, low, high, many + comb(many, low) * low)


def _cases_from(number, empty, full, width):
    """CASES by the boxes from this number on: they end at so many first panes more without, or with, a pixel.

    In the round of boxes whose first panes have none nobody can have the first pixel; in that of as many as high whose
    first panes have one nobody can wait for the last one.
    """
    if empty == 0 or full == 0:
        return ()
    small = _cases_from(number + 1, empty - 1, full, width)
    return (2 * number,), width, 0, small, _cases_from(number + 1, empty, full - 1, width)


def ranges(layout, boxes, limits):
    """For each box and lone pane its RANGES at all widths; None if they fall."""
    boxes, limits = tupled(boxes), tupled(limits)
    _check_limits(boxes, limits)
    left = _first_left(layout, boxes, limits, _holders(layout, boxes))
    if left is None:
        return None
    rows = [tuple(zip(lows, highs)) for lows, highs in left]
    return tuple(zip(*rows))[:-1]


def _check_limits(boxes, limits):
    """Unfit() unless each GROUP of limits is one of boxes or a lone pane."""
    if not all([group in boxes or len(group) == 1 for group, _ in limits]):
        raise Unfit()


def _holders(layout, boxes):
    """The pairs (place of a holder, places of its things), the fewest panes first.

    Places are those among the boxes and lone panes, ascending; the one behind stands for all panes together.
    """
    groups = held_groups(layout, boxes)
    found = []
    for holder in sorted(list(boxes), key=len) + [all_panes(layout)]:
        places = [groups.index(thing) for thing in things_of(layout, boxes, holder)]
        found.append((groups.index(holder) if holder in boxes else len(groups), places))
    return found


def _first_left(layout, boxes, limits, holders):
    """What is left of the pairs of BOUNDS, for each width a list of the least and one of the greatest numbers."""
    told = {group: bounds_row(layout, group, off) for group, off in limits}
    if any([None in pairs for pairs in told.values()]):
        return None
    groups = held_groups(layout, boxes)
    found = []
    for width in range(last(layout) + 1):
        pairs = [told[group][width] if group in told else (0, width) for group in groups] + [(width, width)]
        found.append(([least for least, _ in pairs], [most for _, most in pairs]))
    return _narrowed(found, holders, list(range(len(found))))


def _narrowed(pairs, holders, widths):
    """What is left of these pairs if those at these widths are new; None if nothing is left of one."""
    left = [(list(lows), list(highs)) for lows, highs in pairs]
    new = [width in widths for width in range(len(left))]
    order = list(range(len(left)))
    while any(new):
        for width in order:
            if new[width]:
                new[width] = False
                if not _settled(left[width], holders):
                    return None
                for beside in (width - 1, width + 1):
                    if 0 <= beside < len(left) and _carried(left[width], left[beside], width < beside):
                        new[beside] = True
        order.reverse()
    return left


def _settled(pair, holders):
    """Whether something is left of each range at a width if the things of holders have what these have."""
    lows, highs = pair
    while True:
        ahead = lows + highs
        for place, things in holders:
            _share(lows, highs, place, things)
        if any([least > most for least, most in zip(lows, highs)]):
            return False
        if ahead == lows + highs:
            return True


def _share(lows, highs, place, things):
    """Narrow the ranges of a holder and of its things by one another."""
    low = sum([lows[thing] for thing in things])
    high = sum([highs[thing] for thing in things])
    lows[place] = max(lows[place], low)
    highs[place] = min(highs[place], high)
    for thing in things:
        least, most = lows[thing], highs[thing]
        lows[thing] = max(least, lows[place] - high + most)
        highs[thing] = min(most, highs[place] - low + least)


def _carried(pair, other, is_ahead):
    """Whether the ranges of other, those at a width beside that of pair, get narrower by these."""
    less, more = (0, 1) if is_ahead else (1, 0)
    lows = [max(own, least - less) for own, least in zip(other[0], pair[0])]
    highs = [min(own, most + more) for own, most in zip(other[1], pair[1])]
    if (lows, highs) == other:
        return False
    other[0][:] = lows
    other[1][:] = highs
    return True


def _part(left, holders, step, is_great):
    """What is left if at the width of step what is at its place has at most its number, or more if is_great."""
    if left is None:
        return None
    width, place, number = step
    lows, highs = list(left[width][0]), list(left[width][1])
    if is_great:
        lows[place] = max(lows[place], number + 1)
    else:
        highs[place] = min(highs[place], number)
    if (lows, highs) == left[width]:
        return left
    return _narrowed(left[:width] + [(lows, highs)] + left[width + 1:], holders, [width])


def is_cases(layout, boxes, limits, thing):
    """Whether thing is CASES of limits."""
    boxes, limits = tupled(boxes), tupled(limits)
    _check_limits(boxes, limits)
    holders = _holders(layout, boxes)
    left = _first_left(layout, boxes, limits, holders)
    return _are_cases(held_groups(layout, boxes), last(layout), holders, left, thing)


def _are_cases(groups, final, holders, left, thing):
    """Whether thing is CASES of what is left."""
    if is_tuple_of(thing, 0):
        return left is None
    if not is_tuple_of(thing, 5) or not are_numbers(thing[0]) or not is_number(thing[1]) or not is_number(thing[2]):
        return False
    group, width, number, small, great = thing
    if group not in groups or not 0 <= width <= final:
        return False
    step = (width, groups.index(group), number)
    if not _are_cases(groups, final, holders, _part(left, holders, step, False), small):
        return False
    return _are_cases(groups, final, holders, _part(left, holders, step, True), great)


def cases(layout, boxes, limits):
    """CASES of limits."""
    boxes, limits = tupled(boxes), tupled(limits)
    _check_limits(boxes, limits)
    if last(layout) * (len(layout[1]) + len(boxes)) > MOST_PAIRS:
        raise TooMuch()
    holders = _holders(layout, boxes)
    found = _cases_of(held_groups(layout, boxes), holders, _first_left(layout, boxes, limits, holders))
    if found is None:
        raise CanNot()
    return found


def _cases_of(groups, holders, left):
    """CASES of what is left; None if some DRAWING is."""
    if left is None:
        return ()
    step = _pressed_step(groups, holders, left)
    is_pressed = step is not None
    if not is_pressed:
        if _leads_to_drawing(holders, left):
            return None
        step = _first_step(left)
    found = []
    for is_great in (False, True):
        part = _part(left, holders, step, is_great)
        own = _cases_of(groups, holders, part)
        # without a press the step may be of no use
        if own is None or (not is_pressed and _are_cases(groups, len(left) - 1, holders, left, own)):
            return own
        found.append(own)
    width, place, number = step
    return groups[place], width, number, found[0], found[1]


def _first_step(left):
    """A step by which the first range at the least width with some to part gets parted; None without."""
    for width, (lows, highs) in enumerate(left):
        for place, least in enumerate(lows):
            if least < highs[place]:
                return width, place, (least + highs[place] - 1) // 2
    return None


def _leads_to_drawing(holders, left):
    """Whether, always with the small part if it can be, a DRAWING is found."""
    step = _first_step(left)
    while step is not None:
        small = _part(left, holders, step, False)
        if small is None or _least_press(holders, small) is not None:
            small = _part(left, holders, step, True)
            if small is None or _least_press(holders, small) is not None:
                return False
        left = small
        step = _first_step(left)
    return True


def _pressed_step(groups, holders, left):
    """A step that parts a range at the lower width of a press; None without."""
    press = _least_press(holders, left)
    if press is None:
        return None
    _, low, high, holder = press
    ranked = []
    for place, group in enumerate(groups):
        more = left[low][1][place] - left[high][0][place]
        if more > 0 and (holder == len(groups) or all([pane in groups[holder] for pane in group])):
            ranked.append((more, place))
    place = max(ranked)[1]
    return low, place, left[high][0][place]


def _least_press(holders, left):
    """The least tuple (many, low, high, place of a holder) such that its things must grow by more than it can.

    many is at how many places more can be at low than must be at high: the steps that are to be looked at.
    """
    found = []
    for high in range(1, len(left)):
        for low in range(1, high):
            place = _pressed_holder(holders, left[low], left[high])
            if place is not None:
                many = len([most for most, least in zip(left[low][1], left[high][0]) if most > least])
                found.append((many, low, high, place))
    return min(found, default=None)


def _pressed_holder(holders, pair, other):
    """The place of a holder that can grow less from pair to other than its things must; None without."""
    must = [max(0, least - most) for least, most in zip(other[0], pair[1])]
    for place, things in holders:
        own = sum([must[thing] for thing in things])
        if own > other[1][place] - pair[0][place]:
            return place
        must[place] = max(must[place], own)
    return None
