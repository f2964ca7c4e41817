"""A window that is pulled: what its panes have then, and what each pull gives and takes."""

from stillpanes.basics import check_place, tupled
from stillpanes.boxes import depth_of, is_boxes
from stillpanes.drawings import is_drawing
from stillpanes.errors import CanNot, Unfit
from stillpanes.layouts import check_width, exact
from stillpanes.shown import shown_by

SIGNS = "0123456789abcdefghijklmnopqrstuvwxyz"


class Window:
    """A window with the panes of a LAYOUT, drawn as a DRAWING tells."""

    def __init__(self, layout, boxes, drawing):
        layout, boxes, drawing = tupled(layout), tupled(boxes), tupled(drawing)
        if not is_boxes(layout, boxes):
            raise Unfit()
        if not is_drawing(layout, drawing):
            raise Unfit()
        self._layout = layout
        self._boxes = boxes
        # for each width what the panes have there
        shown = shown_by(layout, drawing)
        self._columns = list(zip(*shown))
        self._pulls = []

    def at(self):
        """The width that it has now."""
        return self._pulls[-1] if self._pulls else 0

    def pulls(self):
        """The list of the widths to which it was pulled and whose pulls are not undone."""
        return list(self._pulls)

    def pulled(self, width):
        """The pairs (pane, more) of the panes that have another number of pixels once it is pulled to width."""
        told = self.moved(self.at(), width)
        self._pulls.append(width)
        return told

    def undone(self):
        """The width that it has again once the last pull is undone."""
        if not self._pulls:
            raise CanNot()
        self._pulls.pop()
        return self.at()

    def moved(self, low, high):
        """The pairs (pane, more) that a pull from low to high tells."""
        check_width(self._layout, low)
        check_width(self._layout, high)
        gains = [own - many for many, own in zip(self._columns[low], self._columns[high])]
        return [(pane, more) for pane, more in enumerate(gains) if more != 0]

    def panes_at(self):
        """The tuple of the pixels that the panes have now."""
        return self._columns[self.at()]

    def pixels(self, group):
        """How many pixels group has now."""
        return sum([self.panes_at()[pane] for pane in group])

    def off(self, group):
        """The off of the number of pixels that group has now."""
        return abs(self.pixels(group) * self._layout[0] - exact(self._layout, group, self.at()))

    def pane_at(self, place):
        """The pane that has the pixel at place now."""
        check_place(place, self.at())
        return self._side_by_side()[place]

    def _side_by_side(self):
        """The list of the panes that have the pixels now, from the left on."""
        found = []
        for pane, many in enumerate(self.panes_at()):
            found.extend([pane] * many)
        return found

    def picture(self):
        """A string with a sign for each pixel by its pane, then one for each DEPTH of a box by the box there."""
        line = self._side_by_side()
        lines = ["".join([_sign(pane) for pane in line])]
        deepest = max([depth_of(self._boxes, box) for box in self._boxes], default=0)
        for depth in range(1, deepest + 1):
            signs = self._signs_at(depth)
            lines.append("".join([signs.get(pane, ".") for pane in line]))
        return tuple(lines)

    def _signs_at(self, depth):
        """A dict with the sign of the box of this DEPTH that has it for each pane in such a box."""
        signs = {}
        for box in self._boxes:
            if depth_of(self._boxes, box) == depth:
                for pane in box:
                    signs[pane] = _sign(box[0])
        return signs


def _sign(pane):
    """The sign of pane."""
    return SIGNS[pane] if pane < len(SIGNS) else "+"
