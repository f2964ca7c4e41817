"""Rules that make layouts: shares, leasts and mosts of panes."""

from math import gcd, lcm

from stillpanes.basics import check_place, is_number_from, is_tuple_of


def is_rules(thing):
    """Whether thing is RULES."""
    if not isinstance(thing, tuple) or not all([_is_rule(own) for own in thing]):
        return False
    return any([own[2] is None for own in thing])


def _is_rule(thing):
    """Whether thing is a triple (share, least, most) as RULES have for each pane."""
    if not is_tuple_of(thing, 3):
        return False
    share, least, most = thing
    if not is_number_from(share, 1) or not is_number_from(least, 0):
        return False
    return most is None or is_number_from(most, least)


def width_given(rules, pane, width):
    """The EXACT width that rules give pane in a window of width pixels."""
    check_place(pane, len(rules))
    tops, below = _given(rules, width)
    return _lowered(tops[pane], below)


def rule_layout(rules, last):
    """The LAYOUT of what rules give at the widths 0 to last."""
    windows = [_given(rules, width) for width in range(last + 1)]
    parts = 1
    for tops, below in windows:
        for top in tops:
            parts = lcm(parts, _lowered(top, below)[1])
    columns = [_in_parts(window, parts) for window in windows]
    return parts, tuple(zip(*columns))


def _in_parts(window, parts):
    """What each pane has, in parts of a pixel, by what _given tells of a window."""
    tops, below = window
    return [top * parts // below for top in tops]


def free_at(rules, width):
    """The set of the panes that get more if the window grows beyond width."""
    if width < _all_leasts(rules):
        return tuple([pane for pane, rule in enumerate(rules) if rule[1] > 0])
    ticks = _ticks(rules)
    return tuple(_free_from(rules, ticks, _turn_ahead(rules, ticks, width)))


def stops(rules, last):
    """The list of the triples (at, pane, word), word "least" or "most"."""
    ticks = _ticks(rules)
    found = []
    for pane, (share, least, most) in enumerate(rules):
        if most != least:
            found.append((_window_at(rules, ticks, least * ticks // share), pane, "least"))
        if most == least:
            found.append((_window_at(rules, ticks, 0), pane, "most"))
        elif most is not None:
            found.append((_window_at(rules, ticks, most * ticks // share), pane, "most"))
    return [(_lowered(at, ticks), pane, word) for at, pane, word in sorted(found) if at <= last * ticks]


def by_shares(shares, last):
    """The LAYOUT of panes with these shares, without leasts and mosts."""
    return rule_layout([(share, 0, None) for share in shares], last)


def even(panes, last):
    """The LAYOUT of so many panes that are all alike."""
    return by_shares([1] * panes, last)


def by_turns(mosts, last):
    """The LAYOUT, parts 1, of panes that grow one after another, each till it has its most."""
    rows = []
    ahead = 0
    for most in mosts:
        rows.append(tuple([min(max(width - ahead, 0), most) for width in range(last + 1)]))
        ahead += most
    rows.append(tuple([max(width - ahead, 0) for width in range(last + 1)]))
    return 1, tuple(rows)


def _lowered(top, below):
    """The EXACT width that is top divided by below."""
    common = gcd(top, below)
    return top // common, below // common


def _all_leasts(rules):
    """How wide all leasts are together."""
    return sum([rule[1] for rule in rules])


def _given(rules, width):
    """(tops, below): each pane's top, divided by below, is what it has in a window of width pixels."""
    leasts = _all_leasts(rules)
    if width < leasts:
        return [width * rule[1] for rule in rules], leasts
    ticks = _ticks(rules)
    turn = _turn_ahead(rules, ticks, width)
    wides = _wides_at(rules, ticks, turn)
    free = _free_from(rules, ticks, turn)
    shares = sum([rules[pane][0] for pane in free])
    rest = width * ticks - sum(wides)
    tops = [wide * shares for wide in wides]
    for pane in free:
        tops[pane] += rest * rules[pane][0]
    return tops, ticks * shares


# Each t at which a pane leaves its least or reaches its most, a turn, is a whole number of ticks
# if a tick is 1 divided by a multiple of all shares; what panes have there is a whole number of
# ticks of a pixel. Between two turns next to each other all grow evenly.


def _ticks(rules):
    """The least number into which t is divided so that all turns are whole."""
    ticks = 1
    for rule in rules:
        ticks = lcm(ticks, rule[0])
    return ticks


def _turns(rules, ticks):
    """The turns, ascending, from 0 on."""
    found = [0]
    for share, least, most in rules:
        found.append(least * ticks // share)
        if most is not None:
            found.append(most * ticks // share)
    return sorted(set(found))


def _turn_ahead(rules, ticks, width):
    """The greatest turn at which all panes together are not wider than width, not below all leasts."""
    found = [turn for turn in _turns(rules, ticks) if _window_at(rules, ticks, turn) <= width * ticks]
    return found[-1]


def _wides_at(rules, ticks, turn):
    """What the panes have at this turn, in ticks of a pixel."""
    wides = []
    for share, least, most in rules:
        wide = max(turn * share, least * ticks)
        wides.append(wide if most is None else min(wide, most * ticks))
    return wides


def _window_at(rules, ticks, turn):
    """What all panes have together at this turn, in ticks of a pixel."""
    return sum(_wides_at(rules, ticks, turn))


def _free_from(rules, ticks, turn):
    """The panes that grow from this turn on."""
    found = []
    for pane, (share, least, most) in enumerate(rules):
        if turn * share >= least * ticks and (most is None or turn * share < most * ticks):
            found.append(pane)
    return found
