"""A shell: the commands and queries of a board as lines of words."""

from loosecursors.board import Board
from loosecursors.errors import InvalidLine
from loosecursors.texts import format_shape, read_number

# For the first word of a line: how many words follow, and the index of the one that is an integer, or None.
LINES = {"create": (3, 2), "deposit": (3, 3), "withdraw": (2, None), "resize": (2, 2), "carry": (2, 2),
         "enlist": (2, None), "discard": (1, None), "mark": (1, None), "back": (1, None), "advance": (2, None),
         "finish": (2, None), "shape": (1, None), "keys": (1, None), "stayed": (2, None), "told": (2, None),
         "names": (0, None)}


class Shell:
    """A shell executes lines on a board of its own."""

    def __init__(self):
        self._board = Board()

    def run(self, line):
        """Execute a line and return its answer."""
        words = _read_line(line)
        first = words[0]
        rest = words[1:]
        if first in ("shape", "keys", "stayed", "told", "names"):
            return self._ask(first, rest)
        if first == "advance":
            return _joined(self._board.advance(*rest), "none")
        if first == "finish":
            return " ".join([",".join(names) or "-" for names in self._board.finish(*rest)])
        self._change(first, rest)
        return "ok"

    def _ask(self, first, rest):
        if first == "shape":
            return format_shape(self._board.shape_of(*rest))
        if first == "keys":
            return _joined(self._board.keys_of(*rest), "none")
        if first == "stayed":
            return _joined(self._board.stayed_by(*rest), "none")
        if first == "told":
            told = self._board.told_by(*rest)
            return _joined([f"{name}:{times}" for name, times in told.items()], "none")
        return _joined(self._board.names, "-")

    def _change(self, first, rest):
        if first == "create":
            name, width, text = rest
            self._board.create(name, text.replace("/", "\n").replace(",", " "), width)
        elif first == "deposit":
            self._board.deposit(*rest)
        elif first == "withdraw":
            self._board.withdraw(*rest)
        elif first == "resize":
            self._board.resize(*rest)
        elif first == "carry":
            self._board.carry(*rest)
        elif first == "enlist":
            self._board.enlist(*rest)
        elif first == "discard":
            self._board.discard(*rest)
        elif first == "mark":
            self._board.mark(*rest)
        else:
            self._board.back(*rest)


def _joined(words, nothing):
    return " ".join(words) or nothing


def _read_line(line):
    """Return the list of the words of a line, with an integer where it has one."""
    if not isinstance(line, str) or "\n" in line:
        raise InvalidLine("the line is not a string without line feeds")
    words = line.split(" ")
    if "" in words or words[0] not in LINES:
        raise InvalidLine("the line does not begin with a word for a command, or its blanks are not single ones")
    many, at = LINES[words[0]]
    if len(words) != many + 1:
        raise InvalidLine("the line has not as many words as it takes")
    if at is not None:
        words[at] = read_number(words[at])
        if words[at] is None:
            raise InvalidLine("a word is not an integer from 0 to 99")
    return words
