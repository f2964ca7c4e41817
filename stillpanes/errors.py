"""The errors that the package raises."""


class NoPlace(LookupError):
    """A pane, a width or a pixel that is not there."""

    def __init__(self, place):
        LookupError.__init__(self, place)
        self.place = place


class BadText(ValueError):
    """A text with a line, counted from 1, that can not stand."""

    def __init__(self, line):
        ValueError.__init__(self, line)
        self.line = line


class CanNot(ValueError):
    """What was asked for is not to be had."""

    def __init__(self):
        ValueError.__init__(self)


class TooMuch(ValueError):
    """There is more to look through than is looked through."""

    def __init__(self):
        ValueError.__init__(self)


class Unfit(ValueError):
    """What was handed in does not go together."""

    def __init__(self):
        ValueError.__init__(self)
