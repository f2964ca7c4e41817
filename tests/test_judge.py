"""Section 22: one judge."""

import functools
import itertools
import random
import unittest

from stillpanes import judge, shown
from tests.reckon import (CAN_NOT, FIVE, LONE, POINT, THIRDS, TOO_MUCH, UNFIT, WRONG, answer, boxes_by, capped,
                          drawings_to, final_of, groups_of, is_kept, is_whole, layouts_by, near_rows, off_in,
                          presses_by_hand, refusal, rows_to, some_limits, splits_of, spoiled)
from tests.test_boxes import boxes_by_hand
from tests.test_drawings import are_limits_by_hand, is_drawing_by_hand, is_row_by_hand
from tests.test_follow import are_followed_by_hand
from tests.test_layouts import layout_by_hand, split_by_hand
from tests.test_shown import (are_levels_by_hand, falls_of, fewest_by_hand, is_shown_by_hand, keeps_there, some_tables,
                              stands_by_hand)
from tests.test_states import table_by_hand

SMALL = layouts_by(220, 44, 3, 3, 4) + [THIRDS, POINT, LONE]
LOOSE, CLOSE = (((0,), 2), ((1,), 2), ((2,), 2)), (((0,), 1), ((1,), 1), ((2,), 1))
FOLLOW = ("follows", THIRDS, ((0,), (1,)), (0, 0, 1, 2))
BOTH = tuple(sorted([((pane,), 1) for pane in range(5)] + [((0, 1), 1), ((3, 4), 1)]))
WORDS = ("follows", "keeps", "moves", "falls", "still", "deep")
# more than 200 tuples of pixels, more than 4,000 STATES
MANY_TUPLES = ("falls", (1, (tuple(range(21)), (0,) * 21, (0,) * 21)), (), 0)
MANY_STATES = capped((1, 7, 12, 12, 12), 14)


# a reckoning of the tests' own


def is_claim_by_hand(thing):
    if type(thing) is not tuple or len(thing) < 3 or type(thing[0]) is not str or not layout_by_hand(thing[1]):
        return False
    word, layout, told = thing[0], thing[1], thing[2:]
    if word == "follows":
        if len(told) != 3 or type(told[0]) is not tuple or not all(type(own) is tuple for own in told[0]):
            return False
        panes = [pane for own in told[0] for pane in own]
        if not panes or not all(map(is_whole, panes)):
            return False
        return (split_by_hand(len(layout[1]), sorted(set(panes)), told[0]) and is_row_by_hand(layout, told[1])
                and is_whole(told[2]) and told[2] >= 0)
    checks = {"keeps": (are_limits_by_hand,), "moves": (is_drawing_by_hand, are_limits_by_hand, is_number_by_hand),
              "falls": (are_limits_by_hand, is_number_by_hand), "still": (is_shown_by_hand,),
              "deep": (are_boxes_by_hand, is_drawing_by_hand)}.get(word)
    if checks is None or len(checks) != len(told):
        return False
    return all(check(layout, own) for check, own in zip(checks, told))


def is_number_by_hand(layout, thing):
    return is_whole(thing) and thing >= 0


def are_boxes_by_hand(layout, thing):
    return boxes_by_hand(len(layout[1]), thing)


@functools.lru_cache(None)
def kept_by(layout, limits):
    return [own for own in drawings_to(len(layout[1]), final_of(layout)) if is_kept(layout, own, limits)]


def moves_between(drawing, other):
    return len([1 for pane, own in zip(drawing, other) if pane != own])


def fewest_moves(layout, drawing, limits):
    return min([moves_between(drawing, own) for own in kept_by(layout, limits)], default=None)


def table_of(layout, drawing):
    return tuple(tuple(drawing[:width].count(pane) for width in range(len(drawing) + 1))
                 for pane in range(len(layout[1])))


def too_far(layout, boxes, drawing):
    """The boxes and lone panes of which the claim is not so."""
    found = []
    for group in list(boxes) + [(pane,) for pane in range(len(layout[1]))]:
        depth = 1 + sum(set(group) < set(own) for own in boxes)
        if 2 * off_in(layout, drawing, group) >= (depth + 1) * layout[0]:
            found.append(group)
    return found


def sums_to_row(layout, split, row, off):
    return any(tuple(map(sum, zip(*rows))) == row for rows in itertools.product(
        *[near_rows(layout, own, off) for own in split]))


@functools.lru_cache(None)
def fewest_falls(layout, limits):
    return fewest_by_hand(stands_by_hand(layout, limits))


@functools.lru_cache(None)
def is_so_by_hand(claim):
    """Whether a CLAIM is so; None where it can not be told."""
    word, layout, told = claim[0], claim[1], claim[2:]
    if word == "follows":
        return sums_to_row(layout, *told)
    if word == "keeps":
        return bool(kept_by(layout, *told))
    if word == "moves":
        fewest = fewest_moves(layout, told[0], told[1])
        return fewest is not None and fewest <= told[2]
    if word == "falls":
        fewest = fewest_falls(layout, told[0])
        return None if fewest is None else fewest <= told[1]
    if word == "still":
        return told[0] in [table_of(layout, own) for own in drawings_to(len(layout[1]), final_of(layout))]
    return not too_far(layout, *told)


def is_for_by_hand(claim, thing):
    word, layout, told = claim[0], claim[1], claim[2:]
    if word == "follows":
        return are_followed_by_hand(layout, *told, thing)
    if word == "keeps":
        return is_drawing_by_hand(layout, thing) and is_kept(layout, thing, told[0])
    if word == "moves":
        return (is_drawing_by_hand(layout, thing) and is_kept(layout, thing, told[1])
                and moves_between(told[0], thing) <= told[2])
    if word == "falls":
        if not is_shown_by_hand(layout, thing):
            return False
        columns = list(zip(*thing))
        return (all(sum(own) == width and keeps_there(layout, told[0], own, width)
                    for width, own in enumerate(columns)) and falls_of(columns) <= told[1])
    if word == "still":
        return is_drawing_by_hand(layout, thing) and table_of(layout, thing) == told[0]
    return type(thing) is tuple and thing == () and is_so_by_hand(claim)


def are_all_whole(thing):
    """Whether all that is no tuple within is a number."""
    return all(map(are_all_whole, thing)) if type(thing) is tuple else is_whole(thing)


def is_against_by_hand(claim, thing):
    """Whether thing is a PAPER against a CLAIM that is not so."""
    word, layout, told = claim[0], claim[1], claim[2:]
    if word == "follows":
        return (type(thing) is tuple and len(thing) == 3 and are_all_whole(thing[1:])
                and thing in presses_by_hand(layout, *told))
    if word == "keeps":
        return are_all_whole(thing) and thing == table_by_hand(layout, told[0])
    if word == "moves":
        fewest = fewest_moves(layout, told[0], told[1])
        return thing is None if fewest is None else is_whole(thing) and thing == fewest
    if word == "falls":
        return are_levels_by_hand(layout, told[0], thing, fewest_falls(layout, told[0]))
    if type(thing) is not tuple or not are_all_whole(thing):
        return False
    if word == "still":
        rows = told[0]
        gapes = [(width,) for width, own in enumerate(zip(*rows)) if sum(own) != width]
        return thing in gapes + [(width, pane) for pane, row in enumerate(rows) for width in range(1, len(row))
                                 if row[width] < row[width - 1]]
    return thing in too_far(layout, *told)


def verdict_by_hand(claim, thing):
    if is_so_by_hand(claim):
        return "for" if is_for_by_hand(claim, thing) else "none"
    return "against" if is_against_by_hand(claim, thing) else "none"


def drawing_by(draw, layout):
    return tuple(draw.randrange(len(layout[1])) for _ in range(final_of(layout)))


def claims_by(draw, layout):
    """A CLAIM of each kind."""
    parts, panes = layout[0], len(layout[1])
    split = draw.choice(splits_of(draw.choice(groups_of(panes))))
    yield "follows", layout, split, draw.choice(rows_to(final_of(layout))), draw.randint(0, parts + 1)
    lone = tuple(((pane,), draw.choice((parts - 1, parts, parts // 2))) for pane in range(panes))
    close = tuple((group, parts // 2 + 1) for group in groups_of(panes))
    for limits in (some_limits(draw, layout), lone, close):
        yield "keeps", layout, limits
        yield "moves", layout, drawing_by(draw, layout), limits, draw.randint(0, 2)
        yield "falls", layout, limits, draw.choice((0, 0, 1, 3))
    yield "still", layout, some_tables(draw, layout, 1)[0]
    yield "still", layout, table_of(layout, drawing_by(draw, layout))
    yield "deep", layout, boxes_by(draw, panes), drawing_by(draw, layout)


class Judged(unittest.TestCase):
    @classmethod
    def setUpClass(cls):
        draw = random.Random(221)
        cls.claims = [own for layout in SMALL for own in claims_by(draw, layout)]
        for off in (0, 1):
            for groups in (((0,), (1,), (2,)), ((0, 1), (2,)), ((0, 2),)):
                limits = tuple((group, off) for group in groups)
                cls.claims += [("keeps", THIRDS, limits), ("moves", THIRDS, (0, 1, 2), limits, 2)]
        # tables that tremble and never gape, that gape and never tremble, that do both
        cls.claims += [("still", THIRDS, own) for own in (
            ((0, 1, 0, 1), (0, 0, 1, 1), (0, 0, 1, 1)), ((0, 0, 0, 1), (0, 0, 1, 0), (0, 1, 1, 2)),
            ((0, 0, 1, 1),) * 3, ((1, 1, 1, 1), (0, 0, 1, 1), (0, 0, 0, 1)), ((0, 1, 0, 1),) * 3)]
        for number in range(3):
            cls.claims += [("falls", FIVE, BOTH, number), ("falls", FIVE, BOTH[1:], number)]
            cls.claims += [("moves", FIVE, (0,) * 6, BOTH[:-1], number + 3)]

    def test_is_so_and_papers(self):
        seen = {}
        for claim in self.claims:
            so = is_so_by_hand(claim)
            seen[claim[0], so] = seen.get((claim[0], so), 0) + 1
            self.assertIs(answer(judge.is_claim, claim), True)
            if so is None:
                self.check_refused(claim)
                continue
            self.assertIs(answer(judge.is_so, claim), so)
            paper = answer(judge.paper, claim)
            self.assertEqual(verdict_by_hand(claim, paper), "for" if so else "against")
            self.assertIs(answer(judge.is_paper_for, claim, paper), so)
            self.assertIs(answer(judge.is_paper_against, claim, paper), not so)
        for word in WORDS:
            self.assertGreater(min(seen[word, True], seen[word, False]), 1, word)
        self.assertGreater(seen["falls", None], 2)

    def check_refused(self, claim):
        self.assertEqual(refusal(judge.is_so, claim), CAN_NOT)
        self.assertEqual(refusal(judge.paper, claim), CAN_NOT)
        for thing in (None, (), 0, table_of(claim[1], (0,) * final_of(claim[1]))):
            self.assertEqual(refusal(judge.is_paper_for, claim, thing), CAN_NOT)
            self.assertEqual(refusal(judge.is_paper_against, claim, thing), CAN_NOT)
            self.assertEqual(refusal(judge.verdicts, (claim,), (thing,)), CAN_NOT)
        self.assertEqual(refusal(judge.first_false, (claim,)), CAN_NOT)

    def test_many_things(self):
        draw = random.Random(222)
        told = [own for own in self.claims if is_so_by_hand(own) is not None]
        papers = [judge.paper(own) for own in told]
        words = set()
        for claim, paper in zip(told, papers):
            bent = [0, False, ()] if paper is None else spoiled(paper)
            things = draw.sample(WRONG, 6) + draw.sample(papers, 6) + draw.sample(bent, min(24, len(bent))) + [paper]
            for thing in things + self.own_things(claim):
                word = verdict_by_hand(claim, thing)
                words.add((claim[0], word))
                self.assertIs(answer(judge.is_paper_for, claim, thing), word == "for")
                self.assertIs(answer(judge.is_paper_against, claim, thing), word == "against")
        self.assertEqual(words, set(itertools.product(WORDS, ("for", "against", "none"))))

    def own_things(self, claim):
        """Things that papers of just this kind could be: all small ones."""
        layout = claim[1]
        drawings = drawings_to(len(layout[1]), final_of(layout))
        drawings = drawings[::len(drawings) // 30 + 1]
        if claim[0] == "keeps":
            return drawings + [None, table_by_hand(layout, claim[2])]
        if claim[0] == "moves":
            return drawings + kept_by(layout, claim[3])[:9] + [None, 0, 1, 2, 3, 4, 5, True, False]
        if claim[0] == "follows":
            return [(word, one, two) for word in ("bare", "more", "fewer") for one in range(4) for two in range(4)]
        if claim[0] == "still":
            pairs = list(itertools.product(range(4), range(3)))
            return pairs + [(0,), (1,), (2,), (3,), (True,)] + drawings
        if claim[0] == "deep":
            return [()] + groups_of(len(layout[1])) + [claim[3], None]
        return [shown.levels(layout, claim[2]), ()]

    def test_verdicts(self):
        draw = random.Random(223)
        told = [own for own in self.claims if is_so_by_hand(own) is not None]
        for _ in range(150):
            claims = tuple(draw.choices(told, k=draw.randint(0, 4)))
            things = []
            for claim in claims:
                paper = judge.paper(claim)
                other = list(paper) if type(paper) is tuple else [paper]
                things.append(draw.choice((paper, paper, paper, None, other)))
            words = [verdict_by_hand(claim, thing) for claim, thing in zip(claims, things)]
            self.assertEqual(answer(judge.verdicts, claims, tuple(things)), words)
            false = [place for place, claim in enumerate(claims) if not is_so_by_hand(claim)]
            self.assertEqual(answer(judge.first_false, claims), false[0] if false else None)

    def test_a_list_is_no_paper(self):
        claims = (FOLLOW + (2,), ("keeps", THIRDS, LOOSE), ("deep", THIRDS, (), (0, 1, 2)), ("keeps", THIRDS, LOOSE))
        things = ([(0, 0, 1, 1), (0, 0, 0, 1)], [0, 1, 2], [], (0, 1, 2))
        self.assertEqual(answer(judge.verdicts, claims, things), ["none", "none", "none", "for"])
        self.assertEqual(judge.verdicts(list(claims), list(things)), ["none", "none", "none", "for"])
        self.assertEqual(answer(judge.verdicts, claims[:1], (((0, 0, 1, 1), [0, 0, 0, 1]),)), ["none"])

    def test_true_is_no_number(self):
        moves = ("moves", THIRDS, (0, 0, 1), LOOSE, 0)
        self.assertEqual(answer(judge.verdicts, (moves, moves), (1, True)), ["against", "none"])
        still = ("still", THIRDS, ((0, 0, 1, 1),) * 3)
        self.assertEqual(answer(judge.verdicts, (still, still), ((1,), (True,))), ["against", "none"])

    def test_moves_without_a_drawing(self):
        for number in (0, 3, 10 ** 9):
            claim = ("moves", THIRDS, (0, 1, 2), CLOSE, number)
            self.assertIs(answer(judge.is_so, claim), False)
            self.assertIsNone(answer(judge.paper, claim))
            self.assertIs(answer(judge.is_paper_against, claim, None), True)
            for thing in (0, 3, 4, False, (), (0, 1, 2)):
                self.assertIs(answer(judge.is_paper_against, claim, thing), False)
        self.assertIs(answer(judge.is_paper_for, ("moves", THIRDS, (0, 1, 2), LOOSE, 0), None), False)

    def test_edges(self):
        for claim, paper in ((("keeps", POINT, ()), ()), (("moves", POINT, (), (), 0), ()),
                             (("falls", POINT, (), 0), ((0,), (0,), (0,))), (("still", POINT, ((0,), (0,), (0,))), ()),
                             (("deep", POINT, ((0, 1),), ()), ()), (("deep", LONE, (), (0, 0, 0)), ()),
                             (("follows", LONE, ((0,),), (0, 1, 2, 3), 0), ((0, 1, 2, 3),)),
                             (("still", POINT, ((0,), (7,), (0,))), (0,))):
            self.assertEqual(answer(judge.paper, claim), paper)
        self.assertEqual(answer(judge.verdicts, (), ()), [])
        self.assertIsNone(answer(judge.first_false, ()))
        self.assertIs(answer(judge.comes_of, FOLLOW + (1,), ()), False)


class Claims(unittest.TestCase):
    def test_is_claim(self):
        draw = random.Random(224)
        right = [FOLLOW + (2,), ("keeps", THIRDS, LOOSE), ("keeps", THIRDS, ()), ("moves", THIRDS, (0, 1, 2), LOOSE, 1),
                 ("falls", THIRDS, CLOSE, 0), ("still", THIRDS, ((0, 1, 0, 1), (0, 0, 2, 1), (0, 0, 0, 1))),
                 ("deep", FIVE, ((0, 1), (0, 1, 2)), (0,) * 6), ("keeps", LONE, (((0,), 10 ** 50),)),
                 ("follows", POINT, ((0, 2), (1,)), (0,), 10 ** 50), ("still", POINT, ((0,), (10 ** 50,), (0,)))]
        things = list(WRONG)
        for own in right:
            self.assertIs(is_claim_by_hand(own), True)
            bent = spoiled(own)
            things.extend([own] + draw.sample(bent, min(900, len(bent))))
        things += [("follows", THIRDS, (), (0, 0, 0, 0), 1), ("follows", THIRDS, ((),), (0, 0, 0, 0), 1),
                   ("follows", THIRDS, ((0,), (0,)), (0, 0, 0, 0), 1),
                   ("follows", THIRDS, ((1,), (0,)), (0, 0, 0, 0), 1),
                   ("follows", THIRDS, ((0,), (1, 2)), (0, 0, 0, 0), 1), ("keep", THIRDS, ()), (None, THIRDS, ()),
                   ([], THIRDS, ()), ((), THIRDS, ()), ("deep", THIRDS, ((0, 1), (1, 2)), (0, 1, 2)), ("keeps",), (),
                   ("keeps", THIRDS), ("still", THIRDS, ((0, 0, 0, 0),) * 3, 1)]
        told = set()
        for thing in things:
            is_one = is_claim_by_hand(thing)
            told.add(is_one)
            self.assertIs(answer(judge.is_claim, thing), is_one, repr(thing)[:200])
        self.assertEqual(told, {True, False})

    def test_the_split_that_is_followed(self):
        """All tuples of GROUPS, with and without common panes."""
        splits = {split for group in groups_of(3) for split in splits_of(group)}
        for many in range(4):
            for split in itertools.product(groups_of(3), repeat=many):
                claim = ("follows", THIRDS, split, (0, 0, 1, 2), 1)
                self.assertIs(judge.is_claim(claim), split in splits, split)
                self.assertIs(is_claim_by_hand(claim), split in splits, split)
        for split in (((0, 1, 2, 3, 4), (4,)), ((0, 1), (0, 1, 2)), ((0, 3), (1, 3)), ((0,), (1, 2), (2, 3))):
            self.assertIs(answer(judge.is_claim, ("follows", FIVE, split, (0,) * 7, 0)), False)
        for split in (((0, 1, 2, 3, 4),), ((0, 3), (1, 4)), ((0,), (1, 2), (3, 4)), ((2,),)):
            self.assertIs(answer(judge.is_claim, ("follows", FIVE, split, (0,) * 7, 0)), True)

    def test_each_word_with_what_belongs_to_others(self):
        for word in WORDS:
            for own in (FOLLOW + (2,), ("keeps", THIRDS, LOOSE), ("moves", THIRDS, (0, 1, 2), LOOSE, 1),
                        ("falls", THIRDS, CLOSE, 0), ("still", THIRDS, ((0, 1, 2, 3),) * 3),
                        ("deep", THIRDS, ((0, 1),), (0, 1, 2))):
                thing = (word,) + own[1:]
                self.assertIs(answer(judge.is_claim, thing), is_claim_by_hand(thing))


class Unfitting(unittest.TestCase):
    def test_ahead_of_all(self):
        heavy = ("keeps", *MANY_STATES)
        for claim in (None, 7, "keeps", (), ("keeps",), ("keeps", THIRDS), ("keeps", THIRDS, (((0,), -1),)),
                      ("falls", THIRDS, CLOSE), ("moves", THIRDS, (0, 1), LOOSE, 1), ("follows", THIRDS, (), (0,), 1),
                      ("follows", THIRDS, ((0,), (0, 1)), (0, 0, 1, 2), 1),
                      ("follows", THIRDS, ((0, 1), (1, 2)), (0, 0, 1, 2), 9),
                      ("deep", THIRDS, ((0, 1),), (0, 1, 3)), ("keeps", (3, ((0, 1, 2),)), ()), ("KEEPS", THIRDS, ())):
            self.assertEqual(refusal(judge.is_so, claim), UNFIT)
            self.assertEqual(refusal(judge.paper, claim), UNFIT)
            for thing in (None, (), (0, 1, 2)):
                self.assertEqual(refusal(judge.is_paper_for, claim, thing), UNFIT)
                self.assertEqual(refusal(judge.is_paper_against, claim, thing), UNFIT)
            for claims in ((claim,), (heavy, claim), (FOLLOW + (2,), claim), (FOLLOW + (1,), claim)):
                self.assertEqual(refusal(judge.verdicts, claims, (None,) * len(claims)), UNFIT)
                self.assertEqual(refusal(judge.first_false, claims), UNFIT)
                self.assertEqual(refusal(judge.comes_of, heavy, claims), UNFIT)
            self.assertEqual(refusal(judge.comes_of, claim, ()), UNFIT)
            self.assertEqual(refusal(judge.comes_of, claim, (claim,)), UNFIT)

    def test_not_equally_many(self):
        heavy = ("keeps", *MANY_STATES)
        for claims, things in (((), (None,)), ((heavy,), ()), ((FOLLOW + (2,),), (None, None)), ((heavy, heavy), (1,))):
            self.assertEqual(refusal(judge.verdicts, claims, things), UNFIT)

    def test_too_much(self):
        layout, limits = MANY_STATES
        good = (5,) * 14
        for claim in (("keeps", layout, limits), ("moves", layout, good, limits, 0), MANY_TUPLES):
            self.assertEqual(refusal(judge.is_so, claim), TOO_MUCH)
            self.assertEqual(refusal(judge.paper, claim), TOO_MUCH)
            for thing in (None, good, (), [], 0):
                self.assertEqual(refusal(judge.is_paper_for, claim, thing), TOO_MUCH)
                self.assertEqual(refusal(judge.is_paper_against, claim, thing), TOO_MUCH)
            # one after another: the first that is not so ends first_false, never verdicts
            self.assertEqual(refusal(judge.first_false, (FOLLOW + (2,), claim)), TOO_MUCH)
            self.assertEqual(answer(judge.first_false, (FOLLOW + (1,), claim)), 0)
            self.assertEqual(refusal(judge.verdicts, (FOLLOW + (1,), claim), (None, None)), TOO_MUCH)
            # nothing is looked at here
            self.assertIs(answer(judge.comes_of, claim, (claim,)), True)

    def test_the_first_of_several(self):
        much, none = ("keeps", *MANY_STATES), ("falls", THIRDS, CLOSE, 9)
        self.assertEqual(refusal(judge.verdicts, (none, much), ((), ())), CAN_NOT)
        self.assertEqual(refusal(judge.verdicts, (much, none), ((), ())), TOO_MUCH)
        self.assertEqual(refusal(judge.first_false, (FOLLOW + (2,), none, much)), CAN_NOT)
        self.assertEqual(answer(judge.first_false, (FOLLOW + (2,), FOLLOW + (0,), none)), 1)


class ComesOf(unittest.TestCase):
    LIMITS = ((), (((0,), 1),), (((0,), 2),), (((0,), 1), ((1,), 1)), (((0,), 2), ((1,), 1)), (((1,), 3),))

    def universe(self):
        for layout in (THIRDS, (6, ((0, 2, 4, 6),) * 3)):
            for limits in self.LIMITS:
                yield "keeps", layout, limits
                for number in range(3):
                    yield "falls", layout, limits, number
                    for drawing in ((0, 1, 2), (0, 0, 0)):
                        yield "moves", layout, drawing, limits, number
            for off in range(3):
                for row in ((0, 0, 1, 2), (0, 1, 1, 2)):
                    for split in (((0,), (1,)), ((0, 1),)):
                        yield "follows", layout, split, row, off
            yield "still", layout, ((0, 1, 1, 1),) * 3
            yield "still", layout, ((0, 0, 1, 1),) * 3
            yield "deep", layout, (), (0, 1, 2)
            yield "deep", layout, ((0, 1),), (0, 1, 2)

    def is_looser(self, limits, others):
        return all(any(group == own and off >= most for own, most in others) for group, off in limits)

    def is_weaker(self, own, pair):
        """Whether of two pairs (limits, number) the other one has looser LIMITS, or a greater number."""
        if own[1] == pair[1]:
            return self.is_looser(pair[0], own[0])
        return own[0] == pair[0] and pair[1] > own[1]

    def at_once(self, own, claim):
        """Whether claim comes of own by one rule."""
        if own[1] != claim[1]:
            return False
        words = own[0], claim[0]
        if words == ("follows", "follows"):
            return own[:4] == claim[:4] and claim[4] > own[4]
        if words == ("keeps", "keeps"):
            return self.is_looser(claim[2], own[2])
        if words == ("falls", "falls"):
            return self.is_weaker(own[2:], claim[2:])
        if words == ("moves", "moves") and own[2] == claim[2]:
            return self.is_weaker(own[3:], claim[3:])
        if words == ("moves", "keeps"):
            return own[3] == claim[2]
        if words == ("keeps", "falls"):
            return own[2] == claim[2] and claim[3] == 0
        if words == ("falls", "keeps"):
            return own[2] == claim[2] and own[3] == 0
        return False

    def test_by_the_rules_again_and_again(self):
        claims = list(self.universe())
        behind = {}
        for own in claims:
            found, front = {own}, [own]
            while front:
                front = [it for it in claims if it not in found and any(self.at_once(other, it) for other in front)]
                found.update(front)
            behind[own] = found
        draw = random.Random(225)
        for own in claims:
            for claim in claims:
                self.assertIs(judge.comes_of(claim, (own,)), claim in behind[own])
        for _ in range(300):
            some = tuple(draw.choices(claims, k=draw.randint(0, 4)))
            claim = draw.choice(claims)
            self.assertIs(answer(judge.comes_of, claim, some), any(claim in behind[own] for own in some))

    def test_without_pixels(self):
        # a DRAWING () and LIMITS () look alike
        keeps, moves = ("keeps", POINT, ()), ("moves", POINT, (), (), 0)
        falls = ("falls", POINT, (), 0)
        for own, claim, told in ((keeps, moves, False), (falls, moves, False), (moves, keeps, True),
                                 (moves, falls, True), (keeps, falls, True), (falls, keeps, True),
                                 (("deep", POINT, (), ()), keeps, False), (keeps, ("deep", POINT, (), ()), False),
                                 (moves, moves[:4] + (1,), True)):
            self.assertIs(answer(judge.comes_of, claim, (own,)), told, (own, claim))

    def test_what_comes_of_what_is_so_is_so(self):
        draw = random.Random(226)
        seen = 0
        for layout in SMALL:
            claims = [own for own in claims_by(draw, layout) if is_so_by_hand(own) is not None]
            claims += [("keeps", layout, own[3]) for own in claims if own[0] == "moves"]
            claims += [("falls", layout, own[2], number) for own in claims if own[0] == "keeps" for number in (0, 1)]
            for own, claim in itertools.product(claims, repeat=2):
                if judge.comes_of(claim, (own,)) and is_so_by_hand(own):
                    self.assertIs(judge.is_so(claim), True)
                    seen += own != claim
        self.assertGreater(seen, 100)


if __name__ == "__main__":
    unittest.main()
