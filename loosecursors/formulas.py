"""The numbers of reversed bits by formulas, without a search through runs."""

from loosecursors.bits import bucket, buckets_of, check_width, is_between, turned
from loosecursors.errors import InvalidShape, UnknownCursor
from loosecursors.makers import check_shapes, top_of
from loosecursors.shapes import is_shape


def spot(code, top):
    """Return the spot of a hash for a width top."""
    return turned(bucket(code, top), top)


def span(shape, cursor, top):
    """Return the tuple of the least and the greatest spot of the hashes that a call by reversed bits lists."""
    check_width(top)
    if not is_shape(shape) or max(shape) > top:
        raise InvalidShape("the shape is none of tables of the greatest width at most")
    if not is_between(cursor, 0, buckets_of(top) - 1):
        raise UnknownCursor("the cursor is none of rules of the greatest width")
    return _span_around(turned(cursor, top), shape, top)


def full_calls(shapes):
    """Return the tuple of the least number of calls of a whole run on the full road and the greatest one of a run."""
    check_shapes(shapes)
    smalls = [min(shape) for shape in shapes]
    return (buckets_of(min(smalls)), buckets_of(max(smalls)))


def full_times(shapes, code):
    """Return the greatest number of calls of a run on the full road that list a hash."""
    check_shapes(shapes)
    top = top_of(shapes)
    listed = spot(code, top)
    # A call leads behind its span; the hash is listed again only by a longer span that goes on behind this one.
    return len(set([_span_around(listed, shape, top)[1] for shape in shapes]))


def _span_around(listed, shape, top):
    many = buckets_of(top - min(shape))
    first = listed // many * many
    return (first, first + many - 1)
