"""Shapes, which are the widths of one or two tables, and the places in them."""

from loosecursors.bits import bucket, buckets_of, check_hash, is_between, is_width
from loosecursors.errors import InvalidMove, InvalidShape


def is_shape(thing):
    """Tell whether a thing is a tuple of one width or of two different widths."""
    if not isinstance(thing, tuple):
        return False
    if len(thing) == 1:
        return is_width(thing[0])
    return len(thing) == 2 and is_width(thing[0]) and is_width(thing[1]) and thing[0] != thing[1]


def are_shapes(thing):
    """Tell whether a thing is a list of one or more different shapes."""
    if not isinstance(thing, list) or not thing:
        return False
    return all([is_shape(item) for item in thing]) and len(set(thing)) == len(thing)


def is_move(shape, thing):
    """Tell whether a thing is a bool that says of a key whether it is moved."""
    return thing is False or thing is True and len(shape) == 2


def moves_of(shape):
    """Return the list of the bools that may say of a key whether it is moved."""
    return [False] if len(shape) == 1 else [False, True]


def places(shape):
    """Return the ascending list of the places of a shape."""
    _check_shape(shape)
    return [(table, number) for table in range(len(shape)) for number in range(buckets_of(shape[table]))]


def is_place(shape, thing):
    """Tell whether a thing is a place of a shape."""
    _check_shape(shape)
    if not isinstance(thing, tuple) or len(thing) != 2:
        return False
    table, number = thing
    return is_between(table, 0, len(shape) - 1) and is_between(number, 0, buckets_of(shape[table]) - 1)


def place_of(shape, code, moved):
    """Return the place of a key with a hash."""
    _check_shape(shape)
    check_hash(code)
    if not is_move(shape, moved):
        raise InvalidMove("moved is not a bool that is possible with this shape")
    table = 1 if moved else 0
    return (table, bucket(code, shape[table]))


def _check_shape(shape):
    if not is_shape(shape):
        raise InvalidShape("the shape is not a tuple of one width or of two different widths")
