"""Rules: what each call lists, and with which cursor the listing goes on."""

from loosecursors.bits import is_between
from loosecursors.errors import InvalidCall, InvalidRule, UnknownCursor, UnknownShape
from loosecursors.shapes import are_shapes, is_place, is_shape

MOST_CURSORS = 64


def is_number_of_cursors(thing):
    """Tell whether a thing is a number of cursors that a rule may have."""
    return is_between(thing, 1, MOST_CURSORS)


def is_call(cursors, shape, thing):
    """Tell whether a thing is a call that a rule with a number of cursors may have for a shape."""
    if not isinstance(thing, tuple) or len(thing) != 2:
        return False
    listed, later = thing
    return _are_places(shape, listed) and (later is None or is_between(later, 0, cursors - 1))


def _are_places(shape, thing):
    if not isinstance(thing, tuple) or not all([is_place(shape, item) for item in thing]):
        return False
    return all([thing[index - 1] < thing[index] for index in range(1, len(thing))])


def _are_calls(cursors, shape, thing):
    if not isinstance(thing, list) or len(thing) != cursors:
        return False
    return all([is_call(cursors, shape, item) for item in thing])


def _make_a_rule(cursors, calls):
    if not is_number_of_cursors(cursors) or not isinstance(calls, dict) or not calls:
        return False
    return all([is_shape(shape) and _are_calls(cursors, shape, rows) for shape, rows in calls.items()])


class Rule:
    """A rule has a call for each of its shapes and each of its cursors, and does not change."""

    def __init__(self, cursors, calls):
        if not _make_a_rule(cursors, calls):
            raise InvalidRule("the number of cursors and the calls do not make a rule")
        self._cursors = cursors
        self._calls = {shape: list(calls[shape]) for shape in sorted(calls)}

    @property
    def cursors(self):
        """The number of cursors."""
        return self._cursors

    @property
    def shapes(self):
        """The ascending list of the shapes."""
        return list(self._calls)

    @property
    def calls(self):
        """The dict from the shapes to the lists of their calls."""
        return {shape: list(rows) for shape, rows in self._calls.items()}

    def call(self, shape, cursor):
        """Return the call for a shape and a cursor."""
        self._check_state(shape, cursor)
        return self._calls[shape][cursor]

    def with_call(self, shape, cursor, call):
        """Return the rule in which the call for a shape and a cursor is another one."""
        self._check_state(shape, cursor)
        if not is_call(self._cursors, shape, call):
            raise InvalidCall("the call is none that the rule may have for this shape")
        calls = self.calls
        calls[shape][cursor] = call
        return Rule(self._cursors, calls)

    def with_shapes(self, shapes):
        """Return the rule with some of its shapes alone."""
        if not are_shapes(shapes) or not all([shape in self._calls for shape in shapes]):
            raise UnknownShape("the shapes are not a list of different shapes of the rule")
        return Rule(self._cursors, {shape: self._calls[shape] for shape in shapes})

    def _check_state(self, shape, cursor):
        # (True,) is found in the dict as (1,) is, but it is no shape.
        if not is_shape(shape) or shape not in self._calls:
            raise UnknownShape("the shape is none of the rule")
        if not is_between(cursor, 0, self._cursors - 1):
            raise UnknownCursor("the cursor is none of the rule")

    def __eq__(self, other):
        return isinstance(other, Rule) and self._cursors == other._cursors and self._calls == other._calls
