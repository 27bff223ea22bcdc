"""Widths, hashes, and the numbers of buckets by their binary digits."""

from loosecursors.errors import InvalidHash, InvalidNumber, InvalidWidth

GREATEST_WIDTH = 5
GREATEST_HASH = 31


def is_integer(thing):
    """Tell whether a thing is an integer, which a bool is not."""
    return isinstance(thing, int) and not isinstance(thing, bool)


def is_between(thing, low, high):
    """Tell whether a thing is an integer from low to high."""
    return is_integer(thing) and low <= thing <= high


def is_width(thing):
    """Tell whether a thing is a width."""
    return is_between(thing, 0, GREATEST_WIDTH)


def is_hash(thing):
    """Tell whether a thing is a hash."""
    return is_between(thing, 0, GREATEST_HASH)


def check_width(width):
    """Raise InvalidWidth if a thing is none."""
    if not is_width(width):
        raise InvalidWidth("the width is not an integer from 0 to 5")


def check_hash(code):
    """Raise InvalidHash if a thing is none."""
    if not is_hash(code):
        raise InvalidHash("the hash is not an integer from 0 to 31")


def buckets_of(width):
    """Return the number of buckets of a table of a width."""
    return 1 << width


def bucket(code, width):
    """Return the number of the bucket of a hash in a table of a width."""
    check_width(width)
    check_hash(code)
    return code % buckets_of(width)


def turned(number, width):
    """Return the number whose width binary digits are those of a number in reverse order."""
    check_width(width)
    _check_number(number, width)
    rest = number
    result = 0
    for _ in range(width):
        result = result * 2 + rest % 2
        rest = rest // 2
    return result


def within(number, small, large):
    """Return the buckets of a large table whose remainder by the buckets of a small one is a number."""
    check_width(small)
    check_width(large)
    _check_number(number, small)
    if small > large:
        raise InvalidNumber("the small table is greater than the large one")
    return list(range(number, buckets_of(large), buckets_of(small)))


def _check_number(number, width):
    if not is_between(number, 0, buckets_of(width) - 1):
        raise InvalidNumber("the number is none of a bucket of a table of the width")
