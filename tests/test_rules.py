"""Section 5: rules that make layouts."""

import random
import unittest
from fractions import Fraction
from math import gcd

from stillpanes import rules
from stillpanes.layouts import is_layout
from tests.reckon import WRONG, answer, no_place, refusal, spoiled

RULES = ((1, 2, None), (2, 0, 3), (1, 0, None))
MADE = [
    RULES, ((1, 0, None),), ((5, 3, None),), ((1, 2, 2), (1, 0, None)), ((1, 0, 0), (1, 0, None)),
    ((1, 2, 2), (3, 2, 2), (1, 0, None)), ((2, 1, 4), (2, 1, 4), (1, 1, None)), ((1, 4, 4), (7, 1, None)),
    ((1, 0, None), (1, 0, None), (1, 0, None)), ((3, 6, 9), (1, 2, 3), (2, 4, None)), ((1, 1, 1), (1, 1, None)),
    ((1000, 0, 1000), (1, 1000, None)), ((1000, 0, None), (999, 0, None), (1, 1, 2)), ((1, 50, None), (1, 50, 60)),
]


def some_rules(seed, many, share, size):
    """So many RULES, of up to four panes."""
    draw = random.Random(seed)
    made = []
    for _ in range(many):
        told = []
        for _ in range(draw.randint(1, 4)):
            least = draw.choice([0, 0, draw.randint(0, size)])
            most = draw.choice([None, least, least + draw.randint(0, size)])
            told.append((draw.randint(1, share), least, most))
        if all(most is not None for _, _, most in told):
            at = draw.randrange(len(told))
            told[at] = told[at][:2] + (None,)
        made.append(tuple(told))
    return made


EVERY = MADE + some_rules(20, 120, 6, 5)


def would_be(rule, t):
    """How wide a pane would be at t, word by word."""
    share, least, most = rule
    if t * share < least:
        return Fraction(least)
    if most is not None and t * share > most:
        return Fraction(most)
    return t * share


def given_by_hand(told, width):
    """What RULES give all panes in a window of width pixels, whole or not: the turn is sought from t to t."""
    leasts = sum(least for _, least, _ in told)
    if width < leasts:
        return [Fraction(width) * least / leasts for _, least, _ in told]
    turns = {Fraction(0)}
    for share, least, most in told:
        turns |= {Fraction(own, share) for own in (least, most) if own is not None}
    t = Fraction(0)
    turns = sorted(turns)
    for low, high in zip(turns, turns[1:] + [turns[-1] + width + 1]):
        at_low = sum(would_be(rule, low) for rule in told)
        at_high = sum(would_be(rule, high) for rule in told)
        if at_low <= width <= at_high and at_high > at_low:
            t = low + (high - low) * (width - at_low) / (at_high - at_low)
            break
    wides = [would_be(rule, t) for rule in told]
    assert sum(wides) == width
    return wides


def pair(number):
    return number.numerator, number.denominator


class IsRules(unittest.TestCase):
    def by_hand(self, thing):
        if type(thing) is not tuple or len(thing) == 0:
            return False
        for own in thing:
            if type(own) is not tuple or len(own) != 3 or type(own[0]) is not int or type(own[1]) is not int:
                return False
            if own[0] < 1 or own[1] < 0:
                return False
            if own[2] is not None and (type(own[2]) is not int or own[2] < own[1]):
                return False
        return any(own[2] is None for own in thing)

    def test_right_ones(self):
        for told in EVERY + [((10 ** 60, 10 ** 50, None),), ((1, 0, None),) * 50]:
            self.assertIs(answer(rules.is_rules, told), True)

    def test_wrong_things(self):
        for thing in WRONG:
            self.assertIs(answer(rules.is_rules, thing), False, thing)
        for told in EVERY[:20]:
            for thing in spoiled(told):
                self.assertIs(answer(rules.is_rules, thing), self.by_hand(thing), thing)
        for thing in (((1, 0, 4),), ((True, 0, None),), ((1, False, None),), ((1, 0, True), (1, 0, None)),
                      ((1, 0, False),), ((1, 1, True), (1, 0, None)), ((1, 0),), ((1, 0, None, None),),
                      [(1, 0, None)], ([1, 0, None],), ((1, 0, "3"), (1, 0, None)), ((1, 2, 1), (1, 0, None))):
            self.assertIs(answer(rules.is_rules, thing), False, thing)


class WidthGiven(unittest.TestCase):
    def test_by_hand(self):
        for told in EVERY:
            for width in list(range(14)) + [40, 1000, 1001]:
                wides = given_by_hand(told, width)
                for pane, wide in enumerate(wides):
                    self.assertEqual(answer(rules.width_given, told, pane, width), pair(wide))

    def test_no_place(self):
        for place in (-1, 3, 4, 10 ** 6, -3):
            self.assertEqual(refusal(rules.width_given, RULES, place, 4), no_place(place))
        self.assertEqual(refusal(rules.width_given, ((1, 0, None),), 1, 0), no_place(1))

    def test_lowest_terms(self):
        for told in EVERY:
            for width in range(9):
                for pane in range(len(told)):
                    top, below = rules.width_given(told, pane, width)
                    self.assertGreater(below, 0)
                    self.assertEqual(gcd(top, below), 1)

    def test_guarantees(self):
        for told in EVERY:
            leasts = sum(least for _, least, _ in told)
            for width in range(12):
                now = [Fraction(*rules.width_given(told, pane, width)) for pane in range(len(told))]
                then = [Fraction(*rules.width_given(told, pane, width + 1)) for pane in range(len(told))]
                self.assertEqual(sum(now), width)
                for old, new in zip(now, then):
                    self.assertLessEqual(old, new)
                    self.assertLessEqual(new - old, 1)
                if width >= leasts:
                    for wide, (_, least, most) in zip(now, told):
                        self.assertLessEqual(least, wide)
                        self.assertTrue(most is None or wide <= most)
                for one, own in zip(now, told):
                    for two, other in zip(now, told):
                        if own[1:] == other[1:] and own[0] > other[0]:
                            self.assertGreaterEqual(one, two)

    def test_many_times_as_much(self):
        for told in EVERY[:60]:
            for many in (2, 5):
                great = tuple((share, least * many, None if most is None else most * many)
                              for share, least, most in told)
                for width in range(9):
                    for pane in range(len(told)):
                        small = Fraction(*rules.width_given(told, pane, width))
                        self.assertEqual(Fraction(*rules.width_given(great, pane, width * many)), small * many)


class RuleLayout(unittest.TestCase):
    def test_by_hand(self):
        for told in EVERY:
            for final in (0, 1, 5, 11):
                layout = answer(rules.rule_layout, told, final)
                self.assertTrue(is_layout(layout))
                windows = [given_by_hand(told, width) for width in range(final + 1)]
                wholes = [own.denominator for window in windows for own in window]
                fewest = 1
                for own in wholes:
                    fewest = fewest * own // gcd(fewest, own)
                rows = tuple(tuple(int(window[pane] * fewest) for window in windows) for pane in range(len(told)))
                self.assertEqual(layout, (fewest, rows))

    def test_at_the_bounds(self):
        told = tuple((1000 - pane, 1000 * (pane % 2), None if pane == 11 else 1000) for pane in range(12))
        layout = answer(rules.rule_layout, told, 40)
        self.assertTrue(is_layout(layout))
        self.assertEqual(layout[1][0], (0,) * 41)
        told = tuple((1000 - pane, pane % 2, None if pane == 11 else 3) for pane in range(12))
        layout = answer(rules.rule_layout, told, 40)
        self.assertTrue(is_layout(layout))
        for pane in range(12):
            self.assertEqual(Fraction(layout[1][pane][40], layout[0]), given_by_hand(told, 40)[pane])

    def test_by_shares_and_even(self):
        for shares in ((1,), (2, 1), (1, 1, 1), (3, 5, 7), (1000, 999), (2, 4, 6), tuple(range(1, 13))):
            for final in (0, 1, 6):
                layout = answer(rules.by_shares, shares, final)
                self.assertEqual(layout, rules.rule_layout(tuple((own, 0, None) for own in shares), final))
                for share, row in zip(shares, layout[1]):
                    told = [Fraction(share * width, sum(shares)) for width in range(final + 1)]
                    self.assertEqual([Fraction(own, layout[0]) for own in row], told)
        for panes in (1, 2, 3, 12):
            for final in (0, 1, 7):
                layout = answer(rules.even, panes, final)
                self.assertEqual(layout, rules.by_shares((1,) * panes, final))
                told = (panes, (tuple(range(final + 1)),) * panes) if final else (1, ((0,),) * panes)
                self.assertEqual(layout, told)
        self.assertEqual(rules.even(4, 2), (4, ((0, 1, 2),) * 4))
        self.assertEqual(rules.even(3, 0), (1, ((0,), (0,), (0,))))

    def test_by_turns(self):
        draw = random.Random(21)
        for mosts in [(), (1,), (2,), (1, 1, 1), (1000,), (3, 1, 2)] + [
                tuple(draw.randint(1, 4) for _ in range(draw.randint(0, 11))) for _ in range(40)]:
            for final in (0, 1, 4, 13):
                layout = answer(rules.by_turns, mosts, final)
                self.assertTrue(is_layout(layout))
                has = [0] * (len(mosts) + 1)
                told = [tuple(has)]
                for _ in range(final):
                    open_ones = [pane for pane, most in enumerate(mosts) if has[pane] < most] + [len(mosts)]
                    has[open_ones[0]] += 1
                    told.append(tuple(has))
                self.assertEqual(layout, (1, tuple(zip(*told))))


class FreeAt(unittest.TestCase):
    def test_by_hand(self):
        for told in EVERY:
            for width in list(range(12)) + [40, 1000, 1060]:
                little = Fraction(1, 10 ** 9)
                now, then = given_by_hand(told, width), given_by_hand(told, width + little)
                free = tuple(pane for pane in range(len(told)) if then[pane] > now[pane])
                self.assertEqual(answer(rules.free_at, told, width), free)
                self.assertGreater(len(free), 0)

    def test_whole_turns(self):
        told = ((1, 0, 2), (1, 0, 2), (1, 2, None))
        self.assertEqual([answer(rules.free_at, told, own) for own in range(8)],
                         [(2,), (2,), (0, 1), (0, 1), (0, 1), (0, 1), (2,), (2,)])


class Stops(unittest.TestCase):
    def by_hand(self, told, final):
        """stops, by looking at each window at which something may turn, and beside it."""
        leasts = sum(least for _, least, _ in told)
        windows = {Fraction(leasts)}
        for share, least, most in told:
            for own in (least, most):
                if own is not None:
                    windows.add(sum(would_be(rule, Fraction(own, share)) for rule in told))
        windows = sorted(windows)
        found = []
        for pane, (_, least, most) in enumerate(told):
            if most != least:
                own = max(at for at in windows if given_by_hand(told, at)[pane] == least)
                assert given_by_hand(told, own + Fraction(1, 10 ** 9))[pane] > least
                found.append((own, pane, "least"))
            if most is not None:
                own = min(at for at in windows if at >= leasts and given_by_hand(told, at)[pane] == most)
                assert own == leasts or given_by_hand(told, own - Fraction(1, 10 ** 9))[pane] < most
                found.append((own, pane, "most"))
        return [(pair(at), pane, word) for at, pane, word in sorted(found) if at <= final]

    def test_by_hand(self):
        for told in EVERY:
            for final in (0, 1, 2, 5, 9, 40):
                self.assertEqual(answer(rules.stops, told, final), self.by_hand(told, final))

    def test_edges(self):
        self.assertEqual(answer(rules.stops, ((1, 0, None),), 0), [((0, 1), 0, "least")])
        self.assertEqual(answer(rules.stops, ((1, 0, 0), (1, 0, None)), 0), [((0, 1), 0, "most"), ((0, 1), 1, "least")])
        self.assertEqual(answer(rules.stops, ((3, 2, 2), (1, 0, None)), 4), [((2, 1), 0, "most"), ((2, 1), 1, "least")])
        told = [((0, 1), 0, "least"), ((0, 1), 1, "least")]
        self.assertEqual(answer(rules.stops, ((1, 0, 1), (3, 0, None)), 3), told)
        self.assertEqual(answer(rules.stops, ((1, 0, 1), (3, 0, None)), 4), told + [((4, 1), 0, "most")])

    def test_the_list_is_new(self):
        first = rules.stops(RULES, 8)
        first.append("more")
        self.assertEqual(len(rules.stops(RULES, 8)), 4)


if __name__ == "__main__":
    unittest.main()
