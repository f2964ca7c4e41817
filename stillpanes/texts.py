"""Texts: values written as lines of words, and read again."""

from stillpanes.basics import ascends
from stillpanes.boxes import cross
from stillpanes.errors import BadText

FIGURES = "0123456789"
MOST_FIGURES = 40


def layout_told(layout):
    """The text of a LAYOUT."""
    return _line("layout", layout[:1]) + _lines("pane", layout[1])


def boxes_told(boxes):
    """The text of BOXES."""
    return _line("boxes", ()) + _lines("box", boxes)


def drawing_told(drawing):
    """The text of a DRAWING."""
    return _line("drawing", drawing)


def row_told(row):
    """The text of a ROW."""
    return _line("row", row)


def limits_told(limits):
    """The text of LIMITS."""
    return _line("limits", ()) + _lines("off", [[off] + list(group) for group, off in limits])


def shown_told(shown):
    """The text of a SHOWN table."""
    return _line("shown", ()) + _lines("pane", shown)


def _line(word, numbers):
    """The line of word and these numbers."""
    return " ".join([word] + [str(own) for own in numbers]) + "\n"


def _lines(word, rows):
    """A line of word and its numbers for each of rows."""
    return "".join([_line(word, own) for own in rows])


def read_layout(text):
    """The LAYOUT of which text is written."""
    told = _read(text, "layout", "pane", _layout_stands)
    parts, rows = told[0][0], told[1:]
    if not rows or any([grows < parts for grows in _growths(rows)]):
        raise BadText(len(told) + 1)
    return parts, tuple(rows)


def read_boxes(text):
    """The BOXES of which text is written."""
    return tuple(_read(text, "boxes", "box", _boxes_stand)[1:])


def read_drawing(text):
    """The DRAWING of which text is written."""
    return _read(text, "drawing", None, _drawing_stands)[0]


def read_row(text):
    """The ROW of which text is written."""
    return _read(text, "row", None, _row_stands)[0]


def read_limits(text):
    """The LIMITS of which text is written."""
    told = _read(text, "limits", "off", _limits_stand)
    return tuple([(own[1:], own[0]) for own in told[1:]])


def read_shown(text):
    """The SHOWN table of which text is written."""
    told = _read(text, "shown", "pane", _shown_stands)
    if len(told) == 1:
        raise BadText(2)
    return tuple(told[1:])


def _read(text, first, further, stands):
    """The list of the tuples of the numbers in the lines of text.

    The first line begins with the word first, any other one with further. stands tells of the tuples ahead of a line
    and its own one whether it can stand.
    """
    lines = text.split("\n")
    told = []
    for line in lines[:-1]:
        numbers = _numbers_behind(further if told else first, line)
        if numbers is None or not stands(told, numbers):
            raise BadText(len(told) + 1)
        told.append(numbers)
    # what is behind the last line feed is not ended; else nothing is there, not even the first line
    if lines[-1] or not told:
        raise BadText(len(told) + 1)
    return told


def _numbers_behind(word, line):
    """The tuple of the numbers behind word in line; None if line is not so."""
    words = line.split(" ")
    if words[0] != word or not all([is_number_word(own, MOST_FIGURES) for own in words[1:]]):
        return None
    return tuple([int(own) for own in words[1:]])


def is_number_word(word, most):
    """Whether word is 1 to most figures, without a needless 0 ahead."""
    if not 1 <= len(word) <= most or not all([sign in FIGURES for sign in word]):
        return False
    return word == "0" or word[0] != "0"


def _layout_stands(ahead, numbers):
    """Whether a line of a LAYOUT can stand behind these ones."""
    if not ahead:
        return len(numbers) == 1 and numbers[0] > 0
    if not numbers or numbers[0] != 0 or any([low > high for low, high in zip(numbers, numbers[1:])]):
        return False
    rows = ahead[1:] + [numbers]
    return len(rows[0]) == len(numbers) and all([grows <= ahead[0][0] for grows in _growths(rows)])


def _growths(rows):
    """By how much rows grow together from each width to the next one."""
    sums = [sum(own) for own in zip(*rows)]
    return [high - low for low, high in zip(sums, sums[1:])]


def _boxes_stand(ahead, numbers):
    """Whether a line of BOXES can stand behind these ones."""
    if not ahead:
        return not numbers
    if len(numbers) < 2 or not ascends(numbers):
        return False
    return ascends(ahead[-1:] + [numbers]) and not any([cross(numbers, own) for own in ahead[1:]])


def _drawing_stands(ahead, numbers):
    """Whether a line of a DRAWING can stand behind these ones."""
    return not ahead


def _row_stands(ahead, numbers):
    """Whether a line of a ROW can stand behind these ones."""
    if ahead or not numbers or numbers[0] != 0:
        return False
    return all([high - low in (0, 1) for low, high in zip(numbers, numbers[1:])])


def _limits_stand(ahead, numbers):
    """Whether a line of LIMITS can stand behind these ones."""
    if not ahead:
        return not numbers
    group = numbers[1:]
    return len(group) > 0 and ascends(group) and ascends([own[1:] for own in ahead[-1:]] + [group])


def _shown_stands(ahead, numbers):
    """Whether a line of a SHOWN table can stand behind these ones."""
    if not ahead:
        return not numbers
    return len(numbers) > 0 and all([len(own) == len(numbers) for own in ahead[1:2]])
