"""Three makers of rules: by counting, by counting down, and by reversed bits."""

from loosecursors.bits import buckets_of, turned, within
from loosecursors.errors import InvalidShapes
from loosecursors.rules import Rule
from loosecursors.shapes import are_shapes


def check_shapes(shapes):
    """Raise InvalidShapes if a thing is not a list of one or more different shapes."""
    if not are_shapes(shapes):
        raise InvalidShapes("the shapes are not a list of one or more different shapes")


def top_of(shapes):
    """Return the greatest width of the tables of some shapes."""
    return max([max(shape) for shape in shapes])


def counting(shapes):
    """Return the rule that lists the buckets one after another."""
    check_shapes(shapes)
    cursors = buckets_of(top_of(shapes))
    return Rule(cursors, {shape: [_call_up(shape, cursor) for cursor in range(cursors)] for shape in shapes})


def counting_down(shapes):
    """Return the rule that lists the buckets one after another, the last one first."""
    check_shapes(shapes)
    cursors = buckets_of(top_of(shapes))
    return Rule(cursors, {shape: [_call_down(shape, cursor) for cursor in range(cursors)] for shape in shapes})


def reversed_bits(shapes):
    """Return the rule that counts with the digits of the cursor reversed."""
    check_shapes(shapes)
    top = top_of(shapes)
    cursors = buckets_of(top)
    calls = {shape: [_call_reversed(shape, cursor, top) for cursor in range(cursors)] for shape in shapes}
    return Rule(cursors, calls)


def _buckets_with(shape, number):
    """Return the places of the buckets with a number of all tables that have one."""
    return tuple([(table, number) for table in range(len(shape)) if number < buckets_of(shape[table])])


def _call_up(shape, cursor):
    later = cursor + 1
    return (_buckets_with(shape, cursor), later if later < buckets_of(max(shape)) else None)


def _call_down(shape, cursor):
    many = buckets_of(max(shape))
    number = many - 1 if cursor == 0 else min(cursor - 1, many - 1)
    return (_buckets_with(shape, number), number if number > 0 else None)


def _call_reversed(shape, cursor, top):
    small = min(shape)
    number = cursor % buckets_of(small)
    # In the table of the small width there is one such bucket.
    found = [(table, place) for table in range(len(shape)) for place in within(number, small, shape[table])]
    step = buckets_of(top - small)
    following = (turned(cursor, top) // step + 1) * step
    return (tuple(found), turned(following, top) if following < buckets_of(top) else None)
