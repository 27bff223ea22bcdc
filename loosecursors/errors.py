"""The errors of the package: each kind of failure has a class of its own."""


class CursorError(ValueError):
    """The base of all errors of the package."""


class ParseError(CursorError):
    """A text is none of its kind; line is the index of the first line that shows it."""

    def __init__(self, line):
        CursorError.__init__(self, f"the text is wrong at line {line}")
        self.line = line


class Always(CursorError):
    """A hash is missed whatever is forbidden; course is a run that shows it."""

    def __init__(self, course):
        CursorError.__init__(self, "a run of one shape alone misses a hash")
        self.course = course


class InvalidWidth(CursorError):
    """A width is not an integer from 0 to 5, or not one that is possible here."""


class InvalidHash(CursorError):
    """A hash is not an integer from 0 to 31."""


class InvalidNumber(CursorError):
    """A number is not an integer of the range that is asked for."""


class InvalidShape(CursorError):
    """A shape is not a tuple of one width or of two different widths."""


class InvalidShapes(CursorError):
    """Shapes are not a list of one or more different shapes."""


class InvalidMove(CursorError):
    """It is not a bool whether a key is moved, or it is moved with one table."""


class InvalidRule(CursorError):
    """A number of cursors and calls do not make a rule."""


class InvalidCall(CursorError):
    """A call is none that a rule may have for this shape."""


class UnknownShape(CursorError):
    """A shape is none of those of a rule or a road."""


class UnknownCursor(CursorError):
    """A cursor is none of those of a rule."""


class InvalidRoad(CursorError):
    """Shapes to begin with and changes do not make a road."""


class UnknownChange(CursorError):
    """A change is none of those of a road."""


class Mismatch(CursorError):
    """A rule and a road, or two rules, do not belong together."""


class InvalidRun(CursorError):
    """A run is none on this road by this rule."""


class InvalidPrices(CursorError):
    """Prices are not a dict from all changes of a road to their prices."""


class NothingToUndo(CursorError):
    """There is nothing that can be undone."""


class Moving(CursorError):
    """A table moves already."""


class InvalidPlace(CursorError):
    """A place is none of the shape of a table."""


class UnknownLabel(CursorError):
    """A label is none of those of a desk's listings."""


class Over(CursorError):
    """A listing has ended."""


class Endless(CursorError):
    """A listing would not end."""


class InvalidName(CursorError):
    """A name is not a string of one to eight lowercase letters."""


class DuplicateName(CursorError):
    """A name is there already."""


class UnknownName(CursorError):
    """A name is not there."""


class UnknownMark(CursorError):
    """A label is none of those of a board's marks."""


class InvalidCommand(CursorError):
    """A command is none of those of a board."""


class InvalidLine(CursorError):
    """A line is none of those of a shell."""
