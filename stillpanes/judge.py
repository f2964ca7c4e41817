"""One judge: claims, the papers that show whether they are so, and what comes of them."""

from stillpanes.basics import are_numbers, is_number, is_number_from, is_tuple_of, tupled
from stillpanes.boxes import depth_of, held_groups, is_boxes
from stillpanes.changes import fewest_moved, least_moved, moved
from stillpanes.drawings import are_limits, is_drawing, is_row, keeps, off_of, row_of
from stillpanes.errors import CanNot, Unfit
from stillpanes.follow import are_followed, followed, follows, is_press, press
from stillpanes.layouts import is_group, is_layout, is_split, split_group
from stillpanes.shown import are_levels, drawing_of, falls, fewest_falls, gapes, is_shown, least_shown, levels
from stillpanes.shown import shown_by, shown_keeps, trembles
from stillpanes.states import falls_at, is_table, least_drawing, table


def is_claim(thing):
    """Whether thing is a CLAIM."""
    if not isinstance(thing, tuple) or len(thing) < 3 or not is_layout(thing[1]):
        return False
    word, layout, told = thing[0], thing[1], thing[2:]
    if word == "follows":
        return len(told) == 3 and _is_split(layout, told[0]) and is_row(layout, told[1]) and is_number_from(told[2], 0)
    if word == "keeps":
        return len(told) == 1 and are_limits(layout, told[0])
    if word == "moves":
        if len(told) != 3 or not is_drawing(layout, told[0]):
            return False
        return are_limits(layout, told[1]) and is_number_from(told[2], 0)
    if word == "falls":
        return len(told) == 2 and are_limits(layout, told[0]) and is_number_from(told[1], 0)
    if word == "still":
        return len(told) == 1 and is_shown(layout, told[0])
    return word == "deep" and len(told) == 2 and is_boxes(layout, told[0]) and is_drawing(layout, told[1])


def _is_split(layout, thing):
    """Whether thing is a SPLIT of some GROUP."""
    if not isinstance(thing, tuple) or not all([is_group(layout, own) for own in thing]):
        return False
    # a pane that two of them have stands twice in what they come to: that is no GROUP
    group = split_group(thing)
    return is_group(layout, group) and is_split(layout, group, thing)


def _checked(claim):
    """claim as a CLAIM; Unfit() if it is none."""
    claim = tupled(claim)
    if not is_claim(claim):
        raise Unfit()
    return claim


def is_so(claim):
    """Whether claim is so."""
    return _is_so(_checked(claim))


def _is_so(claim):
    """The same for what is a CLAIM."""
    word, layout, told = claim[0], claim[1], claim[2:]
    if word == "follows":
        return follows(layout, told[0], told[1], told[2])
    if word == "keeps":
        return falls_at(layout, told[0]) is None
    if word == "moves":
        fewest = _fewest(claim)
        return fewest is not None and fewest <= told[2]
    if word == "falls":
        return fewest_falls(layout, told[0]) <= told[1]
    if word == "still":
        return not trembles(told[0]) and not gapes(told[0])
    return not _too_far(claim)


def _fewest(claim):
    """The fewest pixels that move, by a CLAIM that begins with "moves"; None if no DRAWING keeps its LIMITS."""
    _, layout, drawing, limits, _ = claim
    try:
        return fewest_moved(layout, drawing, limits)
    except CanNot:
        return None


def _too_far(claim):
    """The boxes and lone panes that are off by too much, by a CLAIM that begins with "deep"."""
    _, layout, boxes, drawing = claim
    found = []
    for group in held_groups(layout, boxes):
        if 2 * off_of(layout, group, row_of(layout, drawing, group)) >= (depth_of(boxes, group) + 1) * layout[0]:
            found.append(group)
    return found


def paper(claim):
    """A PAPER for claim if it is so, else one against it."""
    claim = _checked(claim)
    return _paper_for(claim) if _is_so(claim) else _paper_against(claim)


def _paper_for(claim):
    """A PAPER for a CLAIM that is so."""
    word, layout, told = claim[0], claim[1], claim[2:]
    if word == "follows":
        return followed(layout, told[0], told[1], told[2])
    if word == "keeps":
        return least_drawing(layout, told[0])
    if word == "moves":
        return least_moved(layout, told[0], told[1])
    if word == "falls":
        return least_shown(layout, told[0])
    if word == "still":
        return drawing_of(layout, told[0])
    return ()


def _paper_against(claim):
    """A PAPER against a CLAIM that is not so."""
    word, layout, told = claim[0], claim[1], claim[2:]
    if word == "follows":
        return press(layout, told[0], told[1], told[2])
    if word == "keeps":
        return table(layout, told[0])
    if word == "moves":
        return _fewest(claim)
    if word == "falls":
        return levels(layout, told[0])
    if word == "still":
        return _stirs(told[0])[0]
    return _too_far(claim)[0]


def _stirs(shown):
    """The pairs (width, pane) such that pane trembles there, then the tuples (width,) such that shown gapes there."""
    return list(trembles(shown)) + [(width,) for width in gapes(shown)]


def is_paper_for(claim, thing):
    """Whether thing is a PAPER for claim."""
    return _verdict(_checked(claim), thing) == "for"


def is_paper_against(claim, thing):
    """Whether thing is a PAPER against claim."""
    return _verdict(_checked(claim), thing) == "against"


def _verdict(claim, thing):
    """What thing is beside a CLAIM: "for", "against" or "none"."""
    # whether it is so comes first: it raises what is to be raised, whatever thing is
    if _is_so(claim):
        return "for" if _shows(claim, thing) else "none"
    return "against" if _bars(claim, thing) else "none"


def _shows(claim, thing):
    """Whether thing is a PAPER for a CLAIM that is so."""
    word, layout, told = claim[0], claim[1], claim[2:]
    if word == "follows":
        return are_followed(layout, told[0], told[1], told[2], thing)
    if word == "keeps":
        return is_drawing(layout, thing) and keeps(layout, thing, told[0])
    if word == "moves":
        if not is_drawing(layout, thing) or not keeps(layout, thing, told[1]):
            return False
        return len(moved(layout, told[0], thing)) <= told[2]
    if word == "falls":
        if not is_shown(layout, thing) or gapes(thing) or not shown_keeps(layout, thing, told[0]):
            return False
        return falls(thing) <= told[1]
    if word == "still":
        return is_drawing(layout, thing) and shown_by(layout, thing) == told[0]
    return is_tuple_of(thing, 0)


def _bars(claim, thing):
    """Whether thing is a PAPER against a CLAIM that is not so."""
    word, layout, told = claim[0], claim[1], claim[2:]
    if word == "follows":
        return is_press(layout, told[0], told[1], told[2], thing)
    if word == "keeps":
        return is_table(layout, told[0], thing)
    if word == "moves":
        return (thing is None or is_number(thing)) and thing == _fewest(claim)
    if word == "falls":
        return are_levels(layout, told[0], thing)
    if word == "still":
        return are_numbers(thing) and thing in _stirs(told[0])
    return are_numbers(thing) and thing in _too_far(claim)


def verdicts(claims, things):
    """For each CLAIM what the value at its place in things is beside it: "for", "against" or "none"."""
    told = _all_checked(claims)
    if len(told) != len(things):
        raise Unfit()
    return [_verdict(claim, thing) for claim, thing in zip(told, things)]


def _all_checked(claims):
    """The list of claims as CLAIMS; Unfit() if one is none."""
    return [_checked(claim) for claim in claims]


def first_false(claims):
    """The first place of a CLAIM that is not so, None without."""
    for place, claim in enumerate(_all_checked(claims)):
        if not _is_so(claim):
            return place
    return None


def comes_of(claim, claims):
    """Whether claim comes of claims."""
    claim = _checked(claim)
    return any([own == claim or _leads_to(own, claim) for own in _all_checked(claims)])


def _leads_to(own, claim):
    """Whether claim comes of own alone by the rules."""
    if own[1] != claim[1]:
        return False
    if own[0] == "follows":
        return claim[0] == "follows" and own[2:4] == claim[2:4] and own[4] <= claim[4]
    ahead, behind = _bound_of(own), _bound_of(claim)
    if ahead is None or behind is None or not _are_looser(behind[0], ahead[0]):
        return False
    if claim[0] == "moves":
        return own[0] == "moves" and own[2] == claim[2] and ahead[1] <= behind[1]
    # whatever keeps LIMITS, by however few pixels that move, falls by 0
    if own[0] == "falls":
        return ahead[1] <= behind[1]
    return True


def _bound_of(claim):
    """The pair of the LIMITS and the number of a CLAIM that has LIMITS, 0 where it has no number; None for others."""
    if claim[0] == "keeps":
        return claim[2], 0
    if claim[0] == "falls":
        return claim[2], claim[3]
    if claim[0] == "moves":
        return claim[3], claim[4]
    return None


def _are_looser(limits, others):
    """Whether each GROUP of limits is in others, there with an off that is not greater."""
    offs = {group: off for group, off in others}
    return all([group in offs and offs[group] <= off for group, off in limits])
