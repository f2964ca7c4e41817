"""What the tests share: makers of values, a reckoning of their own, and a caller that watches the general rules."""

import copy
import inspect
import itertools
import random

THIRDS = (3, ((0, 1, 2, 3), (0, 1, 2, 3), (0, 1, 2, 3)))
FIVE = (2, ((0, 1, 1, 1, 1, 1, 1), (0, 0, 1, 2, 4, 5, 6), (0, 0, 1, 1, 1, 1, 2), (0, 1, 1, 1, 1, 1, 1),
            (0, 0, 0, 1, 1, 2, 2)))
LONE = (7, ((0, 7, 14, 21),))
POINT = (4, ((0,), (0,), (0,)))


# makers


def layout_by(draw, panes, final, parts):
    """A LAYOUT whose pixels are dealt out by draw, a random.Random with a told seed."""
    rows = [[0] for _ in range(panes)]
    for _ in range(final):
        style = draw.randrange(3)
        gains = [0] * panes
        if style == 0:
            gains[draw.randrange(panes)] = parts
        else:
            among = [pane for pane in range(panes) if style == 1 or draw.random() < 0.5] or [0]
            cuts = sorted(draw.randrange(parts + 1) for _ in among[1:])
            for pane, low, high in zip(among, [0] + cuts, cuts + [parts]):
                gains[pane] = high - low
        for row, gain in zip(rows, gains):
            row.append(row[-1] + gain)
    return parts, tuple(map(tuple, rows))


def layouts_by(seed, many, panes, final, parts):
    """So many LAYOUTS, of up to so many panes, widths and parts."""
    draw = random.Random(seed)
    made = []
    for _ in range(many):
        made.append(layout_by(draw, draw.randint(1, panes), draw.randint(0, final), draw.randint(1, parts)))
    return made


def tiny_layouts(panes, final, parts):
    """All LAYOUTS of just so many panes, widths and parts."""
    gains = [gain for gain in itertools.product(range(parts + 1), repeat=panes) if sum(gain) == parts]
    for steps in itertools.product(gains, repeat=final):
        yield parts, tuple(tuple(itertools.accumulate((step[pane] for step in steps), initial=0))
                           for pane in range(panes))


def groups_of(panes):
    """All GROUPS of so many panes, ascending."""
    every = range(panes)
    return sorted(own for many in range(1, panes + 1) for own in itertools.combinations(every, many))


def splits_of(group):
    """All SPLITS of a GROUP."""
    if not group:
        return [()]
    first, rest = group[0], group[1:]
    found = []
    for many in range(len(rest) + 1):
        for more in itertools.combinations(rest, many):
            left = tuple(pane for pane in rest if pane not in more)
            found.extend(tuple(sorted(((first,) + more,) + own)) for own in splits_of(left))
    return found


def is_laminar(groups):
    """Whether each two sets of panes lie one within the other, or apart."""
    return all(set(one) <= set(two) or set(two) <= set(one) or not set(one) & set(two)
               for one, two in itertools.combinations(groups, 2))


def all_boxes(panes):
    """All BOXES of so many panes."""
    singles = [own for own in groups_of(panes) if 1 < len(own) < panes]
    found, front = [()], [()]
    while front:
        front = [own + (group,) for own in front for group in singles
                 if (not own or own[-1] < group) and is_laminar(own + (group,))]
        found.extend(front)
    return found


def boxes_by(draw, panes):
    """Some BOXES of so many panes."""
    picked = []
    groups = [own for own in groups_of(panes) if 1 < len(own) < panes]
    draw.shuffle(groups)
    for own in groups[:draw.randint(0, 3 * panes)]:
        if is_laminar(picked + [own]):
            picked.append(own)
    return tuple(sorted(picked))


def rows_to(final):
    """All ROWS of a LAYOUT with this LAST, ascending."""
    return sorted(tuple(itertools.accumulate(steps, initial=0)) for steps in itertools.product((0, 1), repeat=final))


def drawings_to(panes, final):
    """All DRAWINGS of so many panes and pixels, ascending."""
    return list(itertools.product(range(panes), repeat=final))


def limits_by(draw, layout):
    """Some LIMITS of layout, maybe ()."""
    groups = groups_of(len(layout[1]))
    told = sorted(draw.sample(groups, draw.randint(0, min(4, len(groups)))))
    return tuple((group, draw.randint(0, 2 * layout[0])) for group in told)


def capped(caps, final):
    """Panes that are nowhere wide, and one that is as wide as the window; LIMITS by which they have so many pixels."""
    parts = 3
    rows = ((0,) * (final + 1),) * len(caps) + (tuple(parts * width for width in range(final + 1)),)
    return (parts, rows), tuple(((pane,), parts * cap) for pane, cap in enumerate(caps))


def some_limits(draw, layout):
    """LIMITS of some kinds: few, many, of lone panes, close ones and far ones."""
    kind = draw.randrange(4)
    parts, panes = layout[0], len(layout[1])
    if kind == 0:
        return limits_by(draw, layout)
    if kind == 1:
        return tuple(((pane,), draw.choice((parts - 1, parts // 2, parts // 3))) for pane in range(panes))
    groups = groups_of(panes)
    told = sorted(draw.sample(groups, min(len(groups), draw.randint(1, 6))))
    return tuple((group, draw.choice((parts - 1, parts, 2 * parts, parts // 2) if kind == 2 else (0, 10 ** 9)))
                 for group in told)


def sums_to(panes, total):
    """All tuples of so many numbers from 0 that come to total, ascending."""
    return [own for own in itertools.product(range(total + 1), repeat=panes) if sum(own) == total]


# a reckoning of the tests' own


def final_of(layout):
    return max(width for width, _ in enumerate(layout[1][0]))


def wide(layout, group, width):
    total = 0
    for pane in group:
        total += layout[1][pane][width]
    return total


def in_drawing(drawing, group, width):
    return len([pane for pane in drawing[:width] if pane in group])


def off_by(layout, group, row):
    return max(abs(many * layout[0] - wide(layout, group, width)) for width, many in enumerate(row))


def off_at(layout, drawing, group, width):
    return abs(in_drawing(drawing, group, width) * layout[0] - wide(layout, group, width))


def off_in(layout, drawing, group):
    return max(off_at(layout, drawing, group, width) for width in range(len(drawing) + 1))


def is_kept(layout, drawing, limits):
    """Whether a row of panes, of any length, keeps limits at each of its widths."""
    return all(off_in(layout, drawing, group) <= off for group, off in limits)


def near_numbers(layout, group, width, off):
    """All numbers of pixels that are off by at most off; those at the width 0 are 0 alone."""
    if width == 0:
        return [0]
    most = (wide(layout, group, width) + off) // layout[0] + 2
    return [many for many in range(most) if abs(many * layout[0] - wide(layout, group, width)) <= off]


def pair_at(layout, group, width, off):
    """The BOUNDS, by looking at each number."""
    found = near_numbers(layout, group, width, off)
    return (found[0], found[-1]) if found else None


def near_rows(layout, group, off):
    """All ROWS off by at most off for group."""
    return [row for row in rows_to(final_of(layout)) if off_by(layout, group, row) <= off]


def presses_by_hand(layout, split, row, off):
    """All PRESSES, word by word."""
    widths = range(final_of(layout) + 1)
    table = [[pair_at(layout, group, width, off) for width in widths] for group in split]
    bares = [("bare", number, width) for number, pairs in enumerate(table) for width in widths if pairs[width] is None]
    if bares:
        return tuple(sorted(bares))
    found = set()
    for low, high in itertools.combinations(widths, 2):
        least = sum(max(0, pairs[high][0] - pairs[low][1]) for pairs in table)
        most = sum(max(0, pairs[high][1] - pairs[low][0]) for pairs in table)
        if least > row[high] - row[low]:
            found.add(("more", low, high))
        if most < row[high] - row[low]:
            found.add(("fewer", low, high))
    return tuple(sorted(found))


def is_whole(thing):
    return type(thing) is int


def is_row_by_hand(thing, final):
    return (type(thing) is tuple and len(thing) == final + 1 and all(map(is_whole, thing))
            and thing in rows_to(final))


# wrong values

DEEP_TUPLE, DEEP_LIST = (), []
for _ in range(98):
    DEEP_TUPLE, DEEP_LIST = (DEEP_TUPLE,), [DEEP_LIST]

WRONG = [
    None, True, False, 0, 1, -1, 7, 10 ** 40, -10 ** 40, "", "a", "layout", "more", [], (), [()], ([],), ((),), [[]],
    ((), ()), (None,), (True,), (False, False), ("a",), (0, None), (None, None, None), ("", ()), (1, ()), (1, [[0]]),
    (1, ((0, True),)), (True, ((0, 1),)), [1, ((0, 1),)], (1, "01"), ("1", ((0, 1),)), (1, (("0",),)), (1, ((None,),)),
    (0, 1, 2), (0, 1, 2, 3), (0, 1), (1, 0), (0, 0), (-1,), (10 ** 40,), (0, 10 ** 40), ((0,), (0,)), ((1,), (0,)),
    ((0, 1), (1, 2)), ((0,), ((0,),)), (((0,), 0),), (((0,), True),), (((0,), -1),), (((0,), None),), (((0,), "1"),),
    (((0,), 1, 1),), (((0,),),), (([0], 1),), [((0,), 1)], ([(0,), 1],), (((0,), 1), ((0,), 2)), (((True,), 1),),
    (((), 1),), DEEP_TUPLE, DEEP_LIST, (DEEP_TUPLE, DEEP_LIST), tuple(range(3000)), [0] * 3000, ((0,),) * 3000,
]


def spoiled(thing):
    """Values that are thing but for one place: each place gets other values, goes, comes twice, or changes places."""
    others = [None, True, False, "0", "", -1, 0, 1, 2, 10 ** 40, (), [], (0,), (0, 1)]
    if type(thing) is int:
        return others + [thing + 1, thing - 1, -thing, (thing,), [thing]]
    if type(thing) is str:
        return others + [thing + " ", thing[:-1], thing.upper(), (thing,), [thing]]
    found = others + [list(thing), thing + thing[-1:], thing + (0,), thing + (None,), (thing,), [thing]]
    for at, own in enumerate(thing):
        ahead, behind = thing[:at], thing[at + 1:]
        found.append(ahead + behind)
        found.append(ahead + (own, own) + behind)
        if behind:
            found.append(ahead + behind[:1] + (own,) + behind[1:])
        if own is None:
            found.extend(ahead + (more,) + behind for more in others)
        else:
            found.extend(ahead + (more,) + behind for more in spoiled(own))
    return found


# the caller


def listed(told):
    """The same with lists in the place of tuples."""
    if type(told) in (tuple, list):
        return [listed(own) for own in told]
    return told


def loosened(name, own):
    """What is handed over by this name, with lists for tuples as far as that may be."""
    if name == "things":
        return list(own)
    return own if name == "thing" else listed(own)


def outcome(function, args, named):
    try:
        return "told", function(*args, **named)
    except (LookupError, ValueError) as error:
        return "raised", type(error).__name__, dict(vars(error))


def told(function, *args):
    """The outcome of a call, ("told", result) or ("raised", name of the class, attributes).

    Each call is made again with lists for tuples (but not for thing, nor within things), and by the names of the
    arguments, and must come to the same each time, of the same form, and leave what it is handed as it was.
    """
    names = list(inspect.signature(function).parameters)
    assert len(names) == len(args), (function.__name__, names)
    first = outcome(function, args, {})
    loose = [loosened(name, own) for name, own in zip(names, args)]
    kept = copy.deepcopy(loose)
    again = outcome(function, loose, {})
    by_name = outcome(function, (), dict(reversed(list(zip(names, loose)))))
    assert repr(first) == repr(again) == repr(by_name), (function.__name__, args, first, again, by_name)
    assert repr(loose) == repr(kept), (function.__name__, args)
    if first[0] == "told" and type(first[1]) is list:
        assert first[1] is not again[1], function.__name__
    return first


def answer(function, *args):
    """The result of a call that raises nothing."""
    first = told(function, *args)
    assert first[0] == "told", (function.__name__, args, first)
    return first[1]


def refusal(function, *args):
    """The name of the error class, and its attributes if it has any, of a call that raises."""
    first = told(function, *args)
    assert first[0] == "raised", (function.__name__, args, first)
    return (first[1],) + tuple(sorted(first[2].items()))


def no_place(place):
    return "NoPlace", ("place", place)


UNFIT, CAN_NOT, TOO_MUCH = ("Unfit",), ("CanNot",), ("TooMuch",)
