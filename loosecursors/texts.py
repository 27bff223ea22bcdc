"""The texts of rules and roads, there and back."""

from loosecursors.errors import ParseError
from loosecursors.roads import Road, is_change
from loosecursors.rules import Rule, is_call, is_number_of_cursors
from loosecursors.shapes import is_shape


def format_shape(shape):
    """Return a shape as it is written: its widths joined by ">"."""
    return ">".join([str(width) for width in shape])


def read_number(word):
    """Return the integer from 0 to 99 that a word is, without leading zeros, or None."""
    # No number that is read here has more than two figures, and Python refuses to read thousands of them.
    if len(word) > 2 or not word.isascii() or not word.isdigit():
        return None
    number = int(word)
    return number if str(number) == word else None


def format_rule(rule):
    """Return the text of a rule."""
    lines = [f"cursors {rule.cursors}"]
    for shape, calls in rule.calls.items():
        lines.append(f"shape {format_shape(shape)}")
        for call in calls:
            lines.append(_format_call(call))
    return "\n".join(lines)


def format_road(road):
    """Return the text of a road."""
    lines = [f"begin {format_shape(shape)}" for shape in road.begin]
    for shape, other in road.changes:
        lines.append(f"change {format_shape(shape)} {format_shape(other)}")
    return "\n".join(lines)


def parse_rule(text):
    """Return the rule with a text."""
    lines = _lines_of(text)
    cursors = _read_cursors(lines[0])
    calls = {}
    shape = None
    for index in range(1, len(lines)):
        words = lines[index].split(" ")
        if shape is None or len(calls[shape]) == cursors:
            shape = _read_next_shape(words, shape, index)
            calls[shape] = []
        else:
            calls[shape].append(_read_call(words, cursors, shape, index))
    if shape is None or len(calls[shape]) < cursors:
        raise ParseError(len(lines))
    return Rule(cursors, calls)


def parse_road(text):
    """Return the road with a text."""
    begin = []
    changes = []
    for index, line in enumerate(_lines_of(text)):
        words = line.split(" ")
        if words[0] == "change" and begin:
            changes.append(_read_next_change(words, changes, index))
        elif words[0] == "begin" and not changes:
            begin.append(_read_next_begin(words, begin, index))
        else:
            raise ParseError(index)
    return Road(begin, changes)


def _format_call(call):
    listed, later = call
    words = ["call"] + [f"{table}.{number}" for table, number in listed]
    words.append("end" if later is None else f"next {later}")
    return " ".join(words)


def _lines_of(text):
    if not isinstance(text, str):
        raise ParseError(0)
    return text.split("\n")


def _read_numbers(word, sign):
    return tuple([read_number(part) for part in word.split(sign)])


def _read_cursors(line):
    words = line.split(" ")
    cursors = read_number(words[-1])
    if len(words) != 2 or words[0] != "cursors" or not is_number_of_cursors(cursors):
        raise ParseError(0)
    return cursors


def _read_next_shape(words, shape, index):
    following = _read_numbers(words[-1], ">")
    if len(words) != 2 or words[0] != "shape" or not is_shape(following):
        raise ParseError(index)
    if shape is not None and following <= shape:
        raise ParseError(index)
    return following


def _read_call(words, cursors, shape, index):
    if words[0] != "call":
        raise ParseError(index)
    if words[-1] == "end":
        last = len(words) - 1
        later = None
    else:
        last = len(words) - 2
        later = read_number(words[-1])
        if words[last] != "next" or later is None:
            raise ParseError(index)
    call = (tuple([_read_numbers(word, ".") for word in words[1:last]]), later)
    if not is_call(cursors, shape, call):
        raise ParseError(index)
    return call


def _read_next_begin(words, begin, index):
    shape = _read_numbers(words[-1], ">")
    if len(words) != 2 or not is_shape(shape) or begin and shape <= begin[-1]:
        raise ParseError(index)
    return shape


def _read_next_change(words, changes, index):
    change = tuple([_read_numbers(word, ">") for word in words[1:]])
    if not is_change(change) or changes and change <= changes[-1]:
        raise ParseError(index)
    return change
