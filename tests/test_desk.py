"""Section 23: a desk."""

import functools
import itertools
import random
import re
import unittest

from stillpanes import desk, texts
from tests.reckon import (FIVE, LONE, POINT, THIRDS, WRONG, answer, boxes_by, capped, drawings_to, final_of, groups_of,
                          is_kept, layouts_by, pair_at, refusal, some_limits, wide)
from tests.test_boxes import boxes_by_hand
from tests.test_drawings import are_limits_by_hand
from tests.test_states import table_by_hand
from tests.test_texts import first_fault, value_of, written

ALONE = r"at|last|drawing|panes|many|falls|undo"
NUMBER = r" (0|[1-9][0-9]{0,5})"
LINE = re.compile(rf"({ALONE}|pull{NUMBER}|(free|exact|depth)({NUMBER})+|(limit|bounds){NUMBER}({NUMBER})+)")
WITH_TEXT = ("layout", "boxes", "limits")
WEST = "limits\n limits\n off 1 0\n off 1 0 1\n off 1 1\n off 1 2\n off 1 3\n off 1 4"


# a reckoning of the tests' own


def parted(text):
    """The pairs (number of the line, lines of a request) of a text."""
    found = []
    for number, line in enumerate(text.split("\n"), start=1):
        if line[:1] == " " and found:
            found[-1][1].append(line)
        else:
            found.append((number, [line]))
    return found


def is_request_by_hand(lines):
    if len(lines) == 1:
        return LINE.fullmatch(lines[0]) is not None
    return lines[0] in WITH_TEXT


@functools.lru_cache(None)
def kept_by(layout, limits):
    return [own for own in drawings_to(len(layout[1]), final_of(layout)) if is_kept(layout, own, limits)]


class Refused(Exception):
    pass


class Beside:
    """A desk, word by word, that looks at all DRAWINGS."""

    def __init__(self):
        self.layout, self.boxes, self.limits, self.width = THIRDS, (), (), 0
        self.ahead = []

    def reply(self, lines):
        word, *numbers = lines[0].split(" ")
        text = "".join(line[1:] + "\n" for line in lines[1:])
        kept = self.layout, self.boxes, self.limits, self.width
        try:
            told = getattr(self, "do_" + word)(*([text] if word in WITH_TEXT else list(map(int, numbers))))
        except Refused as error:
            assert (self.layout, self.boxes, self.limits, self.width) == kept
            return f"refused {error}"
        if word in ("layout", "boxes", "limits", "limit", "free", "pull"):
            self.ahead.append((word, kept))
            return "done"
        if word == "undo":
            return told
        return "-" if told is None else " ".join(map(str, told))

    def group(self, numbers):
        for pane in numbers:
            if pane >= len(self.layout[1]):
                raise Refused("NoPlace")
        if list(numbers) != sorted(set(numbers)):
            raise Refused("Unfit")
        return tuple(numbers)

    def read(self, kind, text):
        if first_fault(kind, text) is not None:
            raise Refused("BadText")
        return value_of(kind, text)

    def do_layout(self, text):
        self.layout = self.read("layout", text)
        self.boxes, self.limits, self.width = (), (), 0

    def do_boxes(self, text):
        told = self.read("boxes", text)
        if not boxes_by_hand(len(self.layout[1]), told):
            raise Refused("Unfit")
        self.boxes = told

    def do_limits(self, text):
        told = self.read("limits", text)
        if not are_limits_by_hand(self.layout, told):
            raise Refused("Unfit")
        self.limits = told

    def do_limit(self, off, *panes):
        told = dict(self.limits)
        told[self.group(panes)] = off
        self.limits = tuple(sorted(told.items()))

    def do_free(self, *panes):
        told = dict(self.limits)
        if told.pop(self.group(panes), None) is None:
            raise Refused("CanNot")
        self.limits = tuple(sorted(told.items()))

    def do_pull(self, width):
        if width > final_of(self.layout):
            raise Refused("NoPlace")
        self.width = width

    def do_undo(self):
        if not self.ahead:
            raise Refused("CanNot")
        word, (self.layout, self.boxes, self.limits, self.width) = self.ahead.pop()
        return word

    def do_at(self):
        return [self.width]

    def do_last(self):
        return [final_of(self.layout)]

    def do_drawing(self):
        kept = kept_by(self.layout, self.limits)
        if not kept:
            raise Refused("CanNot")
        return kept[0]

    def do_panes(self):
        drawing = self.do_drawing()
        return [drawing[:self.width].count(pane) for pane in range(len(self.layout[1]))]

    def do_many(self):
        return [len(kept_by(self.layout, self.limits))]

    def do_falls(self):
        if kept_by(self.layout, self.limits):
            return None
        return [len(table_by_hand(self.layout, self.limits)) - 1]

    def do_exact(self, *panes):
        return [wide(self.layout, self.group(panes), self.width)]

    def do_bounds(self, off, *panes):
        return pair_at(self.layout, self.group(panes), self.width, off)

    def do_depth(self, *panes):
        group = self.group(panes)
        if len(group) > 1 and group not in self.boxes:
            raise Refused("Unfit")
        return [1 + sum(set(group) < set(own) for own in self.boxes)]


def outcome_by_hand(text):
    """The replies, or the refusal."""
    if not text:
        return []
    found = parted(text)
    for number, lines in found:
        if not is_request_by_hand(lines):
            return "BadText", ("line", number)
    own = Beside()
    return [own.reply(lines) for _, lines in found]


def indented(text):
    """A text as the lines behind a request."""
    return "".join("\n " + line for line in text.split("\n")[:-1])


def request_by(draw, layout):
    """A request, as it might be made while this LAYOUT is held, and the LAYOUT held behind it."""
    panes, final = len(layout[1]), final_of(layout)
    kind = draw.randrange(16)
    group = " ".join(map(str, draw.choice(groups_of(panes))))
    if draw.random() < 0.12:
        group = " ".join(str(draw.randint(0, panes)) for _ in range(draw.randint(1, 3)))
    off = draw.choice((0, layout[0] // 2, layout[0] - 1, layout[0], 2 * layout[0], 50))
    if kind == 0:
        layout = draw.choice(layouts_by(draw.randrange(40), 1, 3, 4, 4) + [THIRDS])
        return "layout" + indented(written("layout", layout)), layout
    if kind == 1:
        return "boxes" + indented(written("boxes", boxes_by(draw, panes + (draw.random() < 0.2)))), layout
    if kind == 2:
        limits = tuple((own, min(off, 50)) for own, off in some_limits(draw, layout))
        if draw.random() < 0.2:
            limits += (((panes,), 1),)
        return "limits" + indented(written("limits", limits)), layout
    if kind == 3:
        text = draw.choice(("boxes\nbox 0\n", "layout 1\npane 0\n\n", "boxes\nbox 0 9\n", "limits\noff 1\n", "\n"))
        return draw.choice(WITH_TEXT) + indented(text), layout
    if kind < 7:
        return f"limit {off} {group}", layout
    return {7: f"free {group}", 8: f"pull {draw.randint(0, final + 1)}", 9: f"pull {final}", 10: "undo",
            11: f"exact {group}", 12: f"bounds {draw.choice((0, off))} {group}", 13: f"depth {group}",
            14: draw.choice(("at", "last")), 15: draw.choice(("drawing", "panes", "many", "falls"))}[kind], layout


class Desks(unittest.TestCase):
    def check(self, text):
        told = outcome_by_hand(text)
        if type(told) is list:
            self.assertEqual(answer(desk.desk, text), told, text)
        else:
            self.assertEqual(refusal(desk.desk, text), told, repr(text))
        return told

    def test_drawn_days(self):
        draw = random.Random(230)
        replies = {}
        for _ in range(400):
            layout, lines = THIRDS, []
            for _ in range(draw.randint(1, 24)):
                # an undo may bring another LAYOUT back: then some requests are refused
                line, layout = request_by(draw, layout)
                lines.append(line)
                if draw.random() < 0.3:
                    lines.append(draw.choice(("drawing", "panes", "many", "falls", "at", "undo")))
            told = self.check("\n".join(lines))
            for line, own in zip(lines, told):
                word = own if own == "-" or own.startswith("refused") else "told"
                key = re.split("[ \n]", line)[0], word
                replies[key] = replies.get(key, 0) + 1
        for word in ("layout", "boxes", "limits"):
            for own in ("told", "refused BadText"):
                self.assertGreater(replies[word, own], 5, (word, own))
        for key in (("boxes", "refused Unfit"), ("limits", "refused Unfit"), ("limit", "refused NoPlace"),
                    ("limit", "refused Unfit"), ("free", "refused CanNot"), ("free", "told"),
                    ("pull", "refused NoPlace"), ("undo", "refused CanNot"), ("undo", "told"),
                    ("drawing", "refused CanNot"), ("drawing", "told"),
                    ("panes", "refused CanNot"), ("panes", "told"), ("many", "told"), ("falls", "told"), ("falls", "-"),
                    ("exact", "refused NoPlace"), ("exact", "told"), ("bounds", "-"), ("bounds", "told"),
                    ("bounds", "refused Unfit"), ("depth", "told"), ("depth", "refused Unfit"), ("at", "told")):
            self.assertGreater(replies.get(key, 0), 3, key)

    def test_bent_lines(self):
        draw = random.Random(231)
        stood = 0
        for _ in range(1500):
            layout, lines = THIRDS, []
            for _ in range(draw.randint(1, 5)):
                line, layout = request_by(draw, layout)
                lines.append(line)
            text = "\n".join(lines)
            at = draw.randint(0, len(text))
            sign = draw.choice((" ", "\n", "0", "1", "a", "-", "\t", "\r", "9999999", ""))
            stood += type(self.check(text[:at] + sign + text[at + draw.randint(0, 1):])) is list
        self.assertGreater(stood, 200)

    def test_where_no_request_begins(self):
        for text, line in (("\n", 1), ("at\n", 2), (" at", 1), ("at\n\nlast", 2), ("at\nlast\n", 3), ("at\n\n x", 2),
                           (" x\nat", 1), (" ", 1), ("at\n x", 1), ("last\nat\n x", 2), ("layout", 1),
                           ("at\nboxes\nat", 2),
                           ("limits", 1), ("boxes 0\n boxes", 1), ("undo 1", 1), ("pull", 1), ("pull 1 1", 1),
                           ("limit", 1), ("limit 1", 1), ("free", 1), ("exact", 1), ("bounds 1", 1), ("depth", 1),
                           ("at at", 1), ("At", 1), ("AT", 1), ("at ", 1), ("pull  1", 1), ("pull 1 ", 1),
                           ("pull 01", 1),
                           ("pull -1", 1), ("pull +1", 1), ("pull 1.0", 1), ("pull \u0661", 1), ("pull \u00b2", 1),
                           ("pull 1234567", 1), ("pull 1_0", 1), ("pull x", 1), ("free 0,1", 1), ("free 0 x", 1),
                           ("at\r\nlast", 1), ("at\rlast", 1), ("at\x0blast", 1), ("at\u2028last", 1), ("\tat", 1),
                           ("layout\n layout 1\n pane 0 1\n", 4), ("layout\n\n layout 1", 1), ("help", 1), ("no", 1),
                           ("layouts\n x", 1), ("panes 0", 1), ("falls 0", 1), ("drawing 0", 1), ("many 1", 1)):
            self.assertEqual(self.check(text), ("BadText", ("line", line)), repr(text))

    def test_before_all_else(self):
        # nothing is worked, not even what would be refused
        self.assertEqual(refusal(desk.desk, "pull 9\nundo\nlayout\n x\nat\nnothing\nat\n"), ("BadText", ("line", 6)))
        self.assertEqual(refusal(desk.desk, "layout\n a\n b\n\nat"), ("BadText", ("line", 4)))

    def test_figures(self):
        self.assertEqual(self.check("limit 999999 0\nbounds 999999 0\npull 3\nbounds 999999 0\nmany"),
                         ["done", "0 0", "done", "0 333334", "27"])
        self.assertEqual(self.check("pull 999999\nlimit 0 999999\nexact 999999\npull 0"),
                         ["refused NoPlace"] * 3 + ["done"])
        self.assertEqual(self.check("limit 1000000 0"), ("BadText", ("line", 1)))

    def test_nothing(self):
        self.assertEqual(answer(desk.desk, ""), [])
        self.assertIsNot(desk.desk(""), desk.desk(""))
        self.assertEqual(self.check("at"), ["0"])
        self.assertEqual(self.check("at\nlast\ndrawing\npanes\nmany\nfalls"), ["0", "3", "0 0 0", "0 0 0", "27", "-"])

    def test_each_desk_is_new(self):
        self.assertEqual(answer(desk.desk, "pull 2\nlimit 1 0\nat\nmany"), ["done", "done", "2", "4"])
        self.assertEqual(answer(desk.desk, "at\nmany\nundo"), ["0", "27", "refused CanNot"])

    def test_last_0_and_one_pane(self):
        text = "layout" + indented(written("layout", POINT)) + "\nlast\ndrawing\npanes\nmany\nfalls\npull 0\npull 1"
        self.assertEqual(self.check(text + "\nexact 0 2\nbounds 0 1"),
                         ["done", "0", "", "0 0 0", "1", "-", "done", "refused NoPlace", "0", "0 0"])
        text = "layout" + indented(written("layout", LONE))
        self.assertEqual(self.check(text + "\npull 2\nexact 0\nexact 1\ndepth 0\ndrawing\npanes\nlimit 0 0\nmany"),
                         ["done", "done", "14", "refused NoPlace", "1", "0 0 0", "2", "done", "1"])

    def test_five(self):
        text = "layout" + indented(written("layout", FIVE)) + "\n" + WEST
        told = self.check(text + "\nmany\ndrawing\npull 4\npanes\nlimit 1 3 4\nmany\nfalls\ndrawing\nfree 0 1\nmany\n"
                          "undo\nundo\nmany\nundo\nat\nundo\nmany")
        self.assertEqual(told, ["done", "done", "2", "0 2 1 1 4 1", "done", "1 2 1 0 0", "done", "0", "6",
                                "refused CanNot", "done", "4", "free", "limit", "2", "pull", "0", "limits", "15625"])


class Undone(unittest.TestCase):
    def test_each_deed(self):
        for deed, word in (("pull 2", "pull"), ("pull 0", "pull"), ("limit 2 0", "limit"), ("limit 9 0", "limit"),
                           ("free 0", "free"), ("boxes\n boxes", "boxes"), ("boxes\n boxes\n box 0 1", "boxes"),
                           ("limits\n limits", "limits"), ("layout\n layout 1\n pane 0", "layout")):
            ahead = "limit 9 0\nboxes\n boxes\n box 1 2\npull 1"
            look = "at\nlast\nmany\ndepth 1\nbounds 2 0"
            told = answer(desk.desk, "\n".join([ahead, look, deed, "undo", look, "undo", "undo", "undo", "undo"]))
            self.assertEqual(told[3:8], told[10:15])
            self.assertEqual(told[8:10], ["done", word])
            self.assertEqual(told[15:], ["pull", "boxes", "limit", "refused CanNot"])

    def test_what_is_refused_is_no_deed(self):
        for line in ("pull 4", "limit 1 3", "limit 1 1 0", "free 0", "boxes\n x", "boxes\n boxes\n box 0 3",
                     "layout\n layout", "limits\n limits\n off 1 3", "depth 0 1", "exact 2 1"):
            told = answer(desk.desk, f"pull 3\n{line}\nat\nmany\nundo\nundo")
            self.assertEqual(told[0], "done")
            self.assertTrue(told[1].startswith("refused "))
            self.assertEqual(told[2:], ["3", "27", "pull", "refused CanNot"])

    def test_answers_are_no_deeds(self):
        look = "at\nlast\ndrawing\npanes\nmany\nfalls\nexact 0\nbounds 1 0\ndepth 0"
        self.assertEqual(answer(desk.desk, f"pull 3\n{look}\nundo\n{look}\nundo")[10], "pull")

    def test_boxes_do_not_touch_limits(self):
        told = answer(desk.desk, "limit 2 0\nboxes\n boxes\n box 0 1\nmany\nlimits\n limits\ndepth 0\nmany")
        self.assertEqual(told, ["done", "done", "12", "done", "2", "27"])


class TooMuch(unittest.TestCase):
    def test_more_than_4000_states(self):
        layout, limits = capped((1, 7, 12, 12, 12), 14)
        text = "layout" + indented(texts.layout_told(layout)) + "\nlimits" + indented(texts.limits_told(limits))
        told = answer(desk.desk, text + "\ndrawing\npanes\nmany\nfalls\nlast\nexact 5\nlimit 0 0 1 2 3 4\nfalls\npanes")
        self.assertEqual(told, ["done", "done"] + ["refused TooMuch"] * 4 + ["14", "0", "done", "-", "0 0 0 0 0 0"])

    def test_at_the_bound(self):
        layout, limits = capped((9, 9, 7, 4), 30)
        text = "layout" + indented(texts.layout_told(layout)) + "\nlimits" + indented(texts.limits_told(limits))
        self.assertEqual(desk.desk(text + "\nfalls\npull 20\npanes"), ["done", "done", "-", "done", "9 9 2 0 0"])


class Requests(unittest.TestCase):
    def test_things(self):
        things = [own for own in WRONG] + ["at", "at\n", " at", "at\nat", "", "\n", "boxes\n x\n y", "boxes\n x\ny",
                                          "boxes\n ", "boxes\n", "boxes\n\n x", "layout\n x", "limits\n x", "limit\n x",
                                          "pull 000001", "pull 100000", "pull 1000000", "at\n x", ["at"], ("at",)]
        for thing in things:
            is_one = type(thing) is str and len(parted(thing)) == 1 and is_request_by_hand(parted(thing)[0][1])
            self.assertIs(answer(desk.is_request, thing), is_one, repr(thing)[:80])

    def test_counts(self):
        words = ("layout", "boxes", "limits", "limit", "free", "pull", "undo", "at", "last", "drawing", "panes", "many",
                 "falls", "exact", "bounds", "depth", "deed", "")
        for word, many, with_text in itertools.product(words, range(5), (False, True)):
            line = " ".join([word] + ["0", "12", "3", "999999"][:many])
            text = line + "\n layout 1" if with_text else line
            least, most = {"layout": (0, 0), "boxes": (0, 0), "limits": (0, 0), "limit": (2, 9), "free": (1, 9),
                           "pull": (1, 1), "exact": (1, 9), "bounds": (2, 9), "depth": (1, 9), "deed": (9, 0),
                           "": (9, 0)}.get(word, (0, 0))
            is_one = least <= many <= most and with_text == (word in WITH_TEXT)
            self.assertIs(answer(desk.is_request, text), is_one, text)

    def test_one_request_is_worked(self):
        draw = random.Random(232)
        for _ in range(300):
            line, _ = request_by(draw, THIRDS)
            self.assertIs(answer(desk.is_request, line), True)
            self.assertEqual(len(answer(desk.desk, line)), 1)


if __name__ == "__main__":
    unittest.main()
