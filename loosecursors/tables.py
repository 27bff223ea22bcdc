"""Tables of keys, which are moved bucket by bucket to a table of another width."""

from loosecursors.bits import bucket, buckets_of, check_hash, check_width, is_between
from loosecursors.errors import (DuplicateName, InvalidName, InvalidNumber, InvalidPlace, InvalidWidth, Moving,
                                 UnknownName)
from loosecursors.shapes import is_place, place_of

LETTERS = "abcdefghijklmnopqrstuvwxyz"
MOST_LETTERS = 8


def is_name(thing):
    """Tell whether a thing is a string of one to eight lowercase letters."""
    return isinstance(thing, str) and 1 <= len(thing) <= MOST_LETTERS and all([sign in LETTERS for sign in thing])


def is_name_in(thing, table):
    """Tell whether a thing is a name that is among the keys of a dict."""
    # What is no name might be no key of any dict, so that it is not looked up.
    return is_name(thing) and thing in table


def check_new_name(thing, table):
    """Raise InvalidName if a thing is no name, or DuplicateName if it is among the keys of a dict."""
    if not is_name(thing):
        raise InvalidName("the name is not a string of one to eight lowercase letters")
    if thing in table:
        raise DuplicateName("the name is there already")


class Table:
    """A table has keys with names and hashes, and a second table while everything moves there."""

    def __init__(self, width):
        check_width(width)
        self._shape = (width,)
        self._moved = 0
        # From names to tuples (hash, whether the key is in table 1).
        self._keys = {}

    @property
    def shape(self):
        """The shape."""
        return self._shape

    @property
    def names(self):
        """The ascending list of the names of the keys."""
        return sorted(self._keys)

    @property
    def moved(self):
        """The number of buckets that were moved since it began to move."""
        return self._moved

    def put(self, name, code):
        """Put a key with a name and a hash into the table, while it moves into table 1."""
        check_new_name(name, self._keys)
        check_hash(code)
        self._keys[name] = (code, self._is_moving())

    def drop(self, name):
        """Take a key out."""
        self._check_known(name)
        del self._keys[name]

    def start(self, width):
        """Begin to move everything to a table of another width."""
        check_width(width)
        if self._shape == (width,):
            raise InvalidWidth("the table has this width already")
        if self._is_moving():
            raise Moving("the table moves already")
        self._shape = (self._shape[0], width)

    def move(self, count):
        """Move all keys of as many next buckets of table 0 to table 1."""
        left = buckets_of(self._shape[0]) - self._moved if self._is_moving() else 0
        if not is_between(count, 1, left):
            raise InvalidNumber("the count is not an integer from 1 to the number of buckets that are not moved")
        if count == left:
            self._shape = self._shape[1:]
            self._moved = 0
            self._keys = {name: (code, False) for name, (code, _) in self._keys.items()}
        else:
            self._moved += count
            self._keys = {name: (code, moved or bucket(code, self._shape[0]) < self._moved)
                          for name, (code, moved) in self._keys.items()}

    def code_of(self, name):
        """Return the hash of a key."""
        self._check_known(name)
        return self._keys[name][0]

    def is_moved(self, name):
        """Tell whether a key is in table 1."""
        self._check_known(name)
        return self._keys[name][1]

    def at(self, place):
        """Return the ascending list of the names of the keys at a place."""
        if not is_place(self._shape, place):
            raise InvalidPlace("the place is none of the table")
        return self.names_at([place])

    def names_at(self, places):
        """Return the ascending list of the names of the keys at some places."""
        return sorted([name for name, (code, moved) in self._keys.items()
                       if place_of(self._shape, code, moved) in places])

    def copy(self):
        """Return an independent table in the same state."""
        other = Table(self._shape[0])
        other._shape = self._shape
        other._moved = self._moved
        other._keys = {name: key for name, key in self._keys.items()}
        return other

    def _is_moving(self):
        return len(self._shape) == 2

    def _check_known(self, name):
        if not is_name_in(name, self._keys):
            raise UnknownName("the table has no key with this name")
