"""Section 21: texts."""

import random
import re
import unittest

from stillpanes import texts
from tests.reckon import (FIVE, LONE, POINT, THIRDS, answer, boxes_by, is_laminar, layouts_by, limits_by, refusal,
                          rows_to)

KINDS = ("layout", "boxes", "drawing", "row", "limits", "shown")
INNER = {"layout": "pane", "boxes": "box", "limits": "off", "shown": "pane"}
TOLD = {kind: getattr(texts, kind + "_told") for kind in KINDS}
READ = {kind: getattr(texts, "read_" + kind) for kind in KINDS}
LARGE = 10 ** 40 - 1


# a reckoning of the tests' own: which lines some value begins with, and which are all of one


def numbers_in(word, line):
    """The numbers behind word; None if the line is not so."""
    if not re.fullmatch(word + "( (0|[1-9][0-9]{0,39}))*", line, re.ASCII):
        return None
    return [int(own) for own in line.split()[1:]]


def steps(numbers):
    return [high - low for low, high in zip(numbers, numbers[1:])]


def is_ascending(numbers):
    return all(step > 0 for step in steps(numbers))


def rows_of(kind, lines):
    """The numbers of all lines, None if one is not so."""
    found = []
    for number, line in enumerate(lines):
        found.append(numbers_in(kind if number == 0 else INNER.get(kind, "!"), line))
    return None if None in found else found


def begins(kind, lines):
    """Whether some value's text has these as its first lines."""
    rows = rows_of(kind, lines)
    if rows is None:
        return False
    head, inner = rows[0], rows[1:]
    if kind == "drawing":
        return True
    if kind == "row":
        return head[:1] == [0] and set(steps(head)) <= {0, 1}
    if kind == "layout":
        return (len(head) == 1 and head[0] > 0
                and all(own[:1] == [0] and min(steps(own), default=0) >= 0 for own in inner)
                and len({len(own) for own in inner}) <= 1
                and all(sum(own) <= head[0] for own in zip(*map(steps, inner))))
    if kind == "boxes":
        return (head == [] and all(len(own) > 1 and is_ascending(own) for own in inner)
                and inner == sorted(inner) and is_laminar(inner) and len(set(map(tuple, inner))) == len(inner))
    if kind == "limits":
        groups = [own[1:] for own in inner]
        return (head == [] and all(own and is_ascending(own) for own in groups)
                and groups == sorted(groups) and len(set(map(tuple, groups))) == len(groups))
    return head == [] and all(inner) and len({len(own) for own in inner}) <= 1


def is_whole_text(kind, lines):
    """Whether these lines, which some value's text begins with, are all of it."""
    rows = rows_of(kind, lines)[1:]
    if kind == "layout":
        parts = rows_of(kind, lines)[0][0]
        return bool(rows) and all(sum(own) == parts for own in zip(*map(steps, rows)))
    return kind != "shown" or bool(rows)


def first_fault(kind, text):
    """The number of the first line that can not stand, None if all can."""
    lines = text.split("\n")
    ended = lines[:-1]
    for many in range(1, len(ended) + 1):
        if not begins(kind, ended[:many]):
            return many
    if lines[-1] or not ended or not is_whole_text(kind, ended):
        return len(ended) + 1
    return None


def value_of(kind, text):
    """The value of which just this text is written."""
    head, *rows = [tuple(own) for own in rows_of(kind, text.split("\n")[:-1])]
    if kind == "layout":
        return head[0], tuple(rows)
    if kind == "limits":
        return tuple((own[1:], own[0]) for own in rows)
    return head if kind in ("drawing", "row") else tuple(rows)


def written(kind, value):
    """The text of a value, by the table of the document."""
    if kind == "layout":
        lines = [["layout", value[0]]] + [["pane", *row] for row in value[1]]
    elif kind == "limits":
        lines = [["limits"]] + [["off", off, *group] for group, off in value]
    elif kind in ("drawing", "row"):
        lines = [[kind, *value]]
    else:
        lines = [[kind]] + [[INNER[kind], *own] for own in value]
    return "".join(" ".join(map(str, line)) + "\n" for line in lines)


def values_of(kind):
    """Some values of a kind."""
    draw = random.Random(210)
    layouts = layouts_by(211, 12, 4, 4, 12) + [THIRDS, FIVE, LONE, POINT]
    if kind == "layout":
        return layouts + [(10 ** 39, ((0, 10 ** 39),)), (LARGE, ((0, LARGE, LARGE), (0, 0, LARGE)))]
    if kind == "boxes":
        return [(), ((0, LARGE),), ((3, 10), (9, 11)), ((0, 1, 2), (1, 2)), ((0, 1), (0, 1, 5), (2, 3))] + [
            boxes_by(draw, draw.randint(2, 6)) for _ in range(10)]
    if kind == "drawing":
        return [(), (0,), (LARGE, 0, LARGE)] + [tuple(draw.randrange(12) for _ in range(many)) for many in range(6)]
    if kind == "row":
        return [own for many in range(4) for own in rows_to(many)] + [tuple(range(15))]
    if kind == "limits":
        return [(), (((0,), LARGE),), (((5, LARGE), 0),)] + [limits_by(draw, own) for own in layouts]
    return [((0,),), ((LARGE, 0, 3),), ((0, 1), (1, 0)), ((7,), (0,), (7,))] + [
        tuple(tuple(draw.randrange(30) for _ in range(many)) for _ in range(draw.randint(1, 3))) for many in (1, 2, 4)]


def bent(text):
    """The text bent in one place: a sign, a word or a line that is another, goes, comes, or changes places."""
    for at in range(len(text) + 1):
        for sign in " 0127-\n\tax":
            yield text[:at] + sign + text[at:]
            yield text[:at] + sign + text[at + 1:]
        yield text[:at] + text[at + 1:]
    lines = text.split("\n")
    for at in range(len(lines)):
        yield "\n".join(lines[:at] + lines[at + 1:])
        yield "\n".join(lines[:at] + lines[at:at + 1] + lines[at:])
        yield "\n".join(lines[:at] + lines[at + 1:at + 2] + lines[at:at + 1] + lines[at + 2:])
        yield "\n".join(lines[:at] + [""] + lines[at:])
        words = lines[at].split(" ")
        for place in range(len(words)):
            for word in ("0", "1", "00", "01", "10", "pane", "box", "", str(LARGE), str(LARGE + 1), "1" * 40, "1" * 41):
                told = words[:place] + [word] + words[place + 1:]
                yield "\n".join(lines[:at] + [" ".join(told)] + lines[at + 1:])
            yield "\n".join(lines[:at] + [" ".join(words[:place] + words[place + 1:])] + lines[at + 1:])
    yield text + text
    yield ""


class Texts(unittest.TestCase):
    def test_told_and_read_again(self):
        for kind in KINDS:
            for value in values_of(kind):
                text = answer(TOLD[kind], value)
                self.assertEqual(text, written(kind, value))
                self.assertIsNone(first_fault(kind, text))
                self.assertEqual(answer(READ[kind], text), value)

    def test_bent(self):
        faults = {kind: set() for kind in KINDS}
        for kind in KINDS:
            stood = 0
            for value in sorted(values_of(kind), key=lambda own: len(written(kind, own)))[:14]:
                for text in dict.fromkeys(bent(written(kind, value))):
                    self.check(kind, text)
                    fault = first_fault(kind, text)
                    faults[kind].add(fault)
                    stood += fault is None
            self.assertGreater(stood, 20, kind)
        for kind in KINDS:
            self.assertLessEqual({1, 2, None}, faults[kind])

    def check(self, kind, text):
        fault = first_fault(kind, text)
        if fault is not None:
            self.assertEqual(refusal(READ[kind], text), ("BadText", ("line", fault)), text)
            return
        value = answer(READ[kind], text)
        self.assertEqual(value, value_of(kind, text))
        self.assertEqual(TOLD[kind](value), text)

    def test_drawn_lines(self):
        draw = random.Random(212)
        words = list(KINDS) + ["pane", "box", "off", "0", "1", "2", "3", "4", ""]
        for _ in range(4000):
            kind = draw.choice(KINDS)
            lines = [kind + draw.choice(("", " 1", " 2", " 0", " 0 1"))]
            for _ in range(draw.randint(0, 4)):
                numbers = [draw.randrange(4) for _ in range(draw.randint(0, 3))]
                lines.append(" ".join(map(str, [INNER.get(kind, "x")] + numbers)))
            if draw.random() < 0.3:
                lines[draw.randrange(len(lines))] = " ".join(draw.choices(words, k=draw.randint(1, 4)))
            self.check(kind, "\n".join(lines) + draw.choice(("\n", "\n", "\n", "", "\n\n", "\n ")))

    def test_layouts_line_by_line(self):
        # panes that come one after another, until there is one too much
        draw = random.Random(213)
        seen = set()
        for _ in range(500):
            parts, final = draw.randint(1, 3), draw.randint(0, 3)
            lines = [f"layout {parts}"]
            for _ in range(draw.randint(1, 5)):
                row = [0]
                for _ in range(final):
                    row.append(row[-1] + draw.choice((0, 0, 1, 1, 2)))
                lines.append(" ".join(map(str, ["pane"] + row)))
            text = "\n".join(lines) + "\n"
            self.check("layout", text)
            fault = first_fault("layout", text)
            seen.add("stands" if fault is None else "wanting" if fault > len(lines) else "too much")
        self.assertEqual(seen, {"stands", "wanting", "too much"})


class NumberWords(unittest.TestCase):
    def test_figures(self):
        for figures, can in ((1, True), (2, True), (39, True), (40, True), (41, False), (60, False), (5000, False)):
            word = "9" * figures
            for kind, line in (("drawing", 1), ("shown", 2), ("limits", 2), ("boxes", 2)):
                text = {"drawing": f"drawing {word}\n", "shown": f"shown\npane {word}\n",
                        "limits": f"limits\noff {word} 0\n", "boxes": f"boxes\nbox 0 {word}\n"}[kind]
                if can:
                    self.assertEqual(answer(TOLD[kind], answer(READ[kind], text)), text)
                else:
                    self.assertEqual(refusal(READ[kind], text), ("BadText", ("line", line)))
        self.assertEqual(answer(texts.read_layout, f"layout {LARGE}\npane 0 {LARGE}\n"), (LARGE, ((0, LARGE),)))
        self.assertEqual(refusal(texts.read_layout, f"layout {LARGE + 1}\n"), ("BadText", ("line", 1)))

    def test_no_number_words(self):
        for word in ("", "00", "01", "-1", "+1", "1_0", "0x1", "1.0", "1e3", "a", "\u0661", "\u00b2", "\uff11",
                     "\u00a01", "1\r", "\t1", "1\x0b", "1\x0c", "1\x1c", "1\u2028", "1\x85", "1\x00", "\ud800"):
            for kind, text, line in (("drawing", f"drawing 0 {word}\n", 1), ("row", f"row 0 {word}\n", 1),
                                     ("layout", f"layout {word}\npane 0\n", 1),
                                     ("layout", f"layout 1\npane 0 {word}\n", 2),
                                     ("boxes", f"boxes\nbox 0 {word}\n", 2), ("limits", f"limits\noff {word} 0\n", 2),
                                     ("limits", f"limits\noff 0 0 {word}\n", 2),
                                     ("shown", f"shown\npane 0 {word}\n", 2)):
                self.assertEqual(refusal(READ[kind], text), ("BadText", ("line", line)), repr(text))

    def test_no_other_ends_of_lines(self):
        for end in ("\r\n", "\r", "\x0b", "\x0c", "\u2028", "\x1e"):
            self.assertEqual(refusal(texts.read_boxes, "boxes" + end), ("BadText", ("line", 1)))
            self.assertEqual(refusal(texts.read_boxes, "boxes\nbox 0 1" + end), ("BadText", ("line", 2)))
            self.assertEqual(refusal(texts.read_drawing, "drawing 0" + end + "\n"), ("BadText", ("line", 1)))


class Edges(unittest.TestCase):
    def test_empty_and_without_end(self):
        for kind in KINDS:
            for text, line in (("", 1), ("\n", 1), ("\n\n", 1), (" ", 1), (kind, 1), (kind + "\nx", None), ("x\n", 1),
                               (kind.upper() + "\n", 1), (" " + kind + "\n", 1), (kind + " \n", 1), (kind + "0\n", 1),
                               (kind + "  0\n", 1), ("\n" + kind + "\n", 1)):
                if line is None:
                    line = first_fault(kind, text)
                self.assertEqual(refusal(READ[kind], text), ("BadText", ("line", line)), repr((kind, text)))

    def test_each_of_another_kind(self):
        for kind in KINDS:
            for other in KINDS:
                for value in values_of(other)[:6]:
                    self.check_other(kind, written(other, value))

    def check_other(self, kind, text):
        fault = first_fault(kind, text)
        if fault is None:
            self.assertEqual(answer(READ[kind], text), value_of(kind, text))
        else:
            self.assertEqual(refusal(READ[kind], text), ("BadText", ("line", fault)))

    def test_a_line_too_much_and_too_little(self):
        for text, line in (("drawing 0 1\ndrawing 0 1\n", 2), ("row 0 1\nrow 0\n", 2), ("row\n", 1), ("shown\n", 2),
                           ("layout 3\n", 2), ("layout 0\n", 1), ("layout\n", 1), ("layout 1 1\n", 1),
                           ("layout 2\npane 0 2\npane 0 0\n", None), ("layout 2\npane 0 2\npane 0 1\n", 3),
                           ("layout 2\npane 0 1\npane 0 1\npane 0 1\n", 4), ("layout 2\npane 0 1\npane 0 0\n", 4),
                           ("layout 2\npane 0\npane 0\npane 0\n", None), ("layout 2\npane 0\npane 1\n", 3),
                           ("layout 2\npane 0 3\n", 2), ("layout 2\npane 0 2 5\n", 2), ("layout 2\npane 0 2 1\n", 2),
                           ("layout 2\npane 0 1 2\npane 0 1\n", 3), ("layout 2\npane\n", 2),
                           ("layout 2\npane 0 2\n\n", 3),
                           ("boxes 0\n", 1), ("boxes\nbox 0\n", 2), ("boxes\nbox\n", 2), ("boxes\nbox 1 0\n", 2),
                           ("boxes\nbox 0 0\n", 2), ("boxes\nbox 0 1\nbox 0 1\n", 3), ("boxes\nbox 2 3\nbox 0 1\n", 3),
                           ("boxes\nbox 0 1 2\nbox 0 3\n", 3), ("boxes\nbox 0 1 2\nbox 1 2\n", None),
                           ("boxes\nbox 0 1\nbox 0 1 2\n", None), ("boxes\nbox 0 1 2\nbox 0 1\n", 3),
                           ("boxes\nbox 2 3\nbox 10 11\n", None), ("limits 1\n", 1), ("limits\noff 1\n", 2),
                           ("limits\noff\n", 2), ("limits\noff 1 0\noff 2 0\n", 3), ("limits\noff 1 0 1\noff 1 0\n", 3),
                           ("limits\noff 9 0\noff 1 0 1\n", None), ("limits\noff 1 2\noff 1 10\n", None),
                           ("limits\noff 1 1 0\n", 2), ("limits\noff 1 0\noff 1 0 1\noff 1 0 1\n", 4),
                           ("shown\npane\n", 2), ("shown\npane 0\npane 0 1\n", 3), ("shown 0\n", 1),
                           ("shown\npane 9 0\npane 0 9\n", None)):
            kind = text.split()[0]
            self.assertEqual(first_fault(kind, text), line, text)
            if line is None:
                self.assertEqual(answer(TOLD[kind], answer(READ[kind], text)), text)
            else:
                self.assertEqual(refusal(READ[kind], text), ("BadText", ("line", line)), text)

    def test_many_panes_and_widths(self):
        layout = (10 ** 6, tuple([tuple(range(0, 61 * 10 ** 4, 10 ** 4))] * 100))
        self.assertEqual(answer(texts.read_layout, answer(texts.layout_told, layout)), layout)
        shown = tuple(tuple(range(pane, pane + 90)) for pane in range(80))
        self.assertEqual(answer(texts.read_shown, answer(texts.shown_told, shown)), shown)
        drawing = tuple(range(2000))
        self.assertEqual(answer(texts.read_drawing, answer(texts.drawing_told, drawing)), drawing)
        boxes = tuple((own, own + 1) for own in range(0, 120, 2))
        self.assertEqual(answer(texts.read_boxes, answer(texts.boxes_told, boxes)), boxes)


if __name__ == "__main__":
    unittest.main()
