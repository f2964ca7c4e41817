"""Half a pixel more: how far off what follows the hardest row of a group must be."""

from stillpanes.bounds import bounds_row, can_from, least_row, most_row, must_from
from stillpanes.drawings import is_row, off_of
from stillpanes.errors import TooMuch, Unfit
from stillpanes.follow import least_follow, most_behind
from stillpanes.layouts import split_group

# sharp tells no LAYOUT with a greater LAST
MOST_WIDTH = 40


def half_kept(layout, split, row):
    """The off of row for the GROUP of split, and the least off by which ROWS follow it."""
    return off_of(layout, split_group(split), row), least_follow(layout, split, row)


def reach(layout, group, off):
    """For each width the least and the greatest number of ROWS that are off by at most off for group."""
    return tuple(zip(least_row(layout, group, off), most_row(layout, group, off)))


def whatever_row(layout, split, off):
    """The least off by which ROWS follow each ROW that is off by at most off for the GROUP of split."""
    pairs = reach(layout, split_group(split), off)
    least = 0
    most = most_behind(layout[0], off)
    while least < most:
        middle = (least + most) // 2
        if _pressed_row(layout, split, pairs, middle) is None:
            most = middle
        else:
            least = middle + 1
    return least


def _pressed_row(layout, split, pairs, off):
    """A ROW within pairs, those of reach, that no ROWS follow by off; None if there is none."""
    table = [bounds_row(layout, group, off) for group in split]
    if any([None in own for own in table]):
        return tuple([low for low, _ in pairs])
    for high in range(1, len(pairs)):
        for low in range(high):
            ends = [(own[low], own[high]) for own in table]
            slow = _slow_row(pairs, low)
            if must_from(ends) > slow[high] - slow[low]:
                return slow
            fast = _fast_row(pairs, low)
            if can_from(ends) < fast[high] - fast[low]:
                return fast
    return None


def _slow_row(pairs, low):
    """A ROW within pairs that grows from low to each greater width by as little as can be."""
    top = pairs[low][1]
    ahead = [most for _, most in pairs[:low]]
    return tuple(ahead + [max(top, least) for least, _ in pairs[low:]])


def _fast_row(pairs, low):
    """A ROW within pairs that grows from low to each greater width by as much as can be."""
    base = pairs[low][0]
    ahead = [least for least, _ in pairs[:low]]
    return tuple(ahead + [min(base + more, most) for more, (_, most) in enumerate(pairs[low:])])


def hardest_row(layout, split, off):
    """A ROW, off by at most off for the GROUP of split, that no ROWS follow by less than whatever_row."""
    least = whatever_row(layout, split, off)
    pairs = reach(layout, split_group(split), off)
    if least == 0:
        return tuple([low for low, _ in pairs])
    return _pressed_row(layout, split, pairs, least - 1)


def is_hardest(layout, split, off, thing):
    """Whether thing is such a ROW as hardest_row tells."""
    if not is_row(layout, thing) or off_of(layout, split_group(split), thing) > off:
        return False
    return least_follow(layout, split, thing) == whatever_row(layout, split, off)


def sharp(parts, off, more):
    """A LAYOUT and a ROW, off by off for (0, 1), that no ROWS follow by less than off and half of parts.

    At the width low the box is as far above what it may have as it may be, at the last one as far below; between, its
    first pane alone grows: from just under some whole pixels to just over more and one of them.
    """
    if 2 * off < parts:
        raise Unfit()
    if 3 * off + (more + 3) * parts > MOST_WIDTH * parts:
        raise TooMuch()
    half = parts // 2
    low = -(-(off + half) // parts)
    early = [min(width * parts, low * parts - off) for width in range(low + 1)]
    steps = more - (-2 * off // parts)
    later = [early[-1] + min(step * parts, more * parts + 2 * off) for step in range(1, steps + 1)]
    box = early + later
    second = [min(wide, half) for wide in box]
    first = [wide - own for wide, own in zip(box, second)]
    others = [width * parts - wide for width, wide in enumerate(box)]
    layout = (parts, (tuple(first), tuple(second), tuple(others)))
    return layout, _sharp_row(layout, box, off, low, low + more)


def _sharp_row(layout, box, off, low, top):
    """The ROW that grows to low at once, then as late as box, the exact widths, and off let it, up to top."""
    late = [max(low, -((off - wide) // layout[0])) for wide in box[low + 1:]]
    return tuple(list(range(low + 1)) + [min(top, many) for many in late])
