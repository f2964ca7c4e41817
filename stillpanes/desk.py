"""A desk: it holds a layout, boxes, limits and a width, and works requests from top to bottom."""

from stillpanes.basics import ascends, check_place
from stillpanes.bounds import bounds
from stillpanes.boxes import depth, is_boxes
from stillpanes.drawings import are_limits
from stillpanes.errors import BadText, CanNot, NoPlace, TooMuch, Unfit
from stillpanes.layouts import all_panes, check_width, exact, last
from stillpanes.states import falls_at, how_many_drawings, least_drawing
from stillpanes.texts import is_number_word, read_boxes, read_layout, read_limits

FIRST_LAYOUT = (3, ((0, 1, 2, 3), (0, 1, 2, 3), (0, 1, 2, 3)))
MOST_FIGURES = 6
WITH_TEXT = ("layout", "boxes", "limits")
# how many numbers stand behind each word, at least and at most (None: without end)
COUNTS = {"layout": (0, 0), "boxes": (0, 0), "limits": (0, 0), "limit": (2, None), "free": (1, None), "pull": (1, 1),
          "undo": (0, 0), "at": (0, 0), "last": (0, 0), "drawing": (0, 0), "panes": (0, 0), "many": (0, 0),
          "falls": (0, 0), "exact": (1, None), "bounds": (2, None), "depth": (1, None)}


def desk(text):
    """The list of the replies to the requests of text."""
    if text == "":
        return []
    found = _requests(text)
    for number, line, behind in found:
        if not _begins_request(line, behind):
            raise BadText(number)
    own = Desk()
    return [own.replied(line, behind) for _, line, behind in found]


def is_request(thing):
    """Whether thing is a string that is one request."""
    if not isinstance(thing, str):
        return False
    found = _requests(thing)
    return len(found) == 1 and _begins_request(found[0][1], found[0][2])


def _requests(text):
    """For each line that begins a request, or should: its number from 1, it, and the lines of its text."""
    found = []
    for number, line in enumerate(text.split("\n"), start=1):
        if line.startswith(" ") and found:
            found[-1][2].append(line[1:])
        else:
            found.append((number, line, []))
    return found


def _begins_request(line, behind):
    """Whether line, with these lines as its text, is a request."""
    words = line.split(" ")
    word, numbers = words[0], words[1:]
    if word not in COUNTS or (word in WITH_TEXT) != bool(behind):
        return False
    least, most = COUNTS[word]
    if len(numbers) < least or (most is not None and len(numbers) > most):
        return False
    return all([is_number_word(own, MOST_FIGURES) for own in numbers])


class Desk:
    """What is held, and for each deed that can be taken back its word and what was held ahead of it."""

    def __init__(self):
        self.held = (FIRST_LAYOUT, (), (), 0)
        self.deeds = []

    def replied(self, line, behind):
        """The reply to the request that begins with line and has these lines as its text."""
        words = line.split(" ")
        numbers = tuple([int(own) for own in words[1:]])
        text = "".join([own + "\n" for own in behind])
        try:
            return self._worked(words[0], numbers, text)
        except NoPlace:
            return "refused NoPlace"
        except BadText:
            return "refused BadText"
        except CanNot:
            return "refused CanNot"
        except TooMuch:
            return "refused TooMuch"
        except Unfit:
            return "refused Unfit"

    def _worked(self, word, numbers, text):
        """The reply to a request that is not refused."""
        if word == "undo":
            return self._taken_back()
        behind = _held_behind(self.held, word, numbers, text)
        if behind is None:
            return _told(_answer(self.held, word, numbers))
        self.deeds.append((word, self.held))
        self.held = behind
        return "done"

    def _taken_back(self):
        """The word of the last deed, which is taken back."""
        if not self.deeds:
            raise CanNot()
        word, self.held = self.deeds.pop()
        return word


def _held_behind(held, word, numbers, text):
    """What is held behind a deed; None if word is that of no deed."""
    layout, boxes, limits, width = held
    if word == "layout":
        return read_layout(text), (), (), 0
    if word == "boxes":
        return layout, _fit_or_not(read_boxes(text), is_boxes, layout), limits, width
    if word == "limits":
        return layout, boxes, _fit_or_not(read_limits(text), are_limits, layout), width
    if word == "limit":
        return layout, boxes, _with_limit(limits, _group(layout, numbers[1:]), numbers[0]), width
    if word == "free":
        return layout, boxes, _without_limit(limits, _group(layout, numbers)), width
    if word == "pull":
        check_width(layout, numbers[0])
        return layout, boxes, limits, numbers[0]
    return None


def _fit_or_not(told, fits, layout):
    """told; Unfit() unless it fits layout."""
    if not fits(layout, told):
        raise Unfit()
    return told


def _group(layout, numbers):
    """These numbers as a GROUP; NoPlace() for the first one that is no pane, then Unfit() if they do not ascend."""
    for pane in numbers:
        check_place(pane, len(all_panes(layout)))
    if not ascends(numbers):
        raise Unfit()
    return numbers


def _with_limit(limits, group, off):
    """limits with this off told with group, in the place of another one, if any."""
    return tuple(sorted([own for own in limits if own[0] != group] + [(group, off)]))


def _without_limit(limits, group):
    """limits without group; CanNot() if it is in none of them."""
    left = tuple([own for own in limits if own[0] != group])
    if left == limits:
        raise CanNot()
    return left


def _answer(held, word, numbers):
    """A number, numbers or None: the answer to a request that is no deed."""
    layout, boxes, limits, width = held
    if word == "at":
        return width
    if word == "last":
        return last(layout)
    if word == "drawing":
        return least_drawing(layout, limits)
    if word == "panes":
        drawing = least_drawing(layout, limits)
        return tuple([drawing[:width].count(pane) for pane in all_panes(layout)])
    if word == "many":
        return how_many_drawings(layout, limits)
    if word == "falls":
        return falls_at(layout, limits)
    if word == "exact":
        return exact(layout, _group(layout, numbers), width)
    if word == "bounds":
        return bounds(layout, _group(layout, numbers[1:]), width, numbers[0])
    return depth(layout, boxes, _group(layout, numbers))


def _told(answer):
    """An answer as a reply."""
    if answer is None:
        return "-"
    if isinstance(answer, tuple):
        return " ".join([str(own) for own in answer])
    return str(answer)
