"""Boxes: groups of panes within groups of panes, and what they part."""

from stillpanes.basics import ascends, check_place, tupled
from stillpanes.errors import CanNot, Unfit
from stillpanes.layouts import all_panes, is_group


def is_boxes(layout, thing):
    """Whether thing are BOXES of layout."""
    if not isinstance(thing, tuple) or not all([_is_box(layout, own) for own in thing]):
        return False
    return ascends(thing) and _none_cross(thing)


def _is_box(layout, thing):
    """Whether thing is a GROUP of two panes at least and not of all."""
    return is_group(layout, thing) and 1 < len(thing) < len(layout[1])


def _none_cross(groups):
    """Whether of each two groups one has all panes of the other one, or none of them."""
    for at, group in enumerate(groups):
        # each with those ahead of it: so a long tuple is given up at an early pair
        for other in groups[:at]:
            if cross(group, other):
                return False
    return True


def cross(group, other):
    """Whether two GROUPS have panes in common, and neither has all of the other one."""
    common = len([pane for pane in group if pane in other])
    return common not in (0, len(group), len(other))


def holder(layout, boxes, group):
    """The holder of group, one of boxes or a lone pane."""
    boxes, group = tupled(boxes), tupled(group)
    _check_held(boxes, group)
    return _holder(layout, boxes, group)


def depth(layout, boxes, group):
    """The DEPTH of group, one of boxes or a lone pane."""
    boxes, group = tupled(boxes), tupled(group)
    _check_held(boxes, group)
    return depth_of(boxes, group)


def deepest(layout, boxes):
    """The greatest DEPTH of a box or a lone pane."""
    boxes = tupled(boxes)
    return max([depth_of(boxes, group) for group in held_groups(layout, boxes)])


def things_of(layout, boxes, group):
    """The things of group, one of boxes or the GROUP of all panes."""
    boxes, group = tupled(boxes), tupled(group)
    if group not in boxes and group != all_panes(layout):
        raise Unfit()
    return tuple([own for own in held_groups(layout, boxes) if _holder(layout, boxes, own) == group])


def held_groups(layout, boxes):
    """The boxes and the lone panes, ascending; boxes are tuples."""
    return sorted(list(boxes) + [(pane,) for pane in all_panes(layout)])


def depth_of(boxes, group):
    """The DEPTH of a box or a lone pane."""
    return 1 + len(_around(boxes, group))


def _check_held(boxes, group):
    """Unfit() unless group is one of boxes or a lone pane."""
    if group not in boxes and len(group) != 1:
        raise Unfit()


def _around(boxes, group):
    """The boxes that have all of group and more."""
    return [box for box in boxes if len(box) > len(group) and all([pane in box for pane in group])]


def _holder(layout, boxes, group):
    """The holder of a box or a lone pane."""
    return min(_around(boxes, group), key=len, default=all_panes(layout))


def partings(layout, boxes):
    """The PARTINGS of boxes, as the set of the sides without pane 0."""
    return turned(layout, boxes, 0)


def tells_one(layout, boxes):
    """Whether boxes tell at most one PARTING."""
    return len(partings(layout, boxes)) < 2


def turned(layout, boxes, pane):
    """The set of the sides without pane of the PARTINGS of boxes."""
    check_place(pane, len(layout[1]))
    sides = []
    for box in tupled(boxes):
        others = tuple([own for own in all_panes(layout) if own not in box])
        if len(others) > 1:
            sides.append(others if pane in box else box)
    return tuple(sorted(set(sides)))


def borders(layout):
    """The borders of layout: the GROUPS of its first 2, of its first 3, .. panes, but not of all."""
    panes = all_panes(layout)
    return tuple([panes[:many] for many in range(2, len(panes))])


def box_more(layout, boxes, group):
    """boxes with group."""
    boxes, group = tupled(boxes), tupled(group)
    more = tuple(sorted(boxes + (group,)))
    if not is_boxes(layout, more):
        raise CanNot()
    return more


def box_less(layout, boxes, group):
    """boxes without group."""
    boxes, group = tupled(boxes), tupled(group)
    if group not in boxes:
        raise CanNot()
    return tuple([box for box in boxes if box != group])
