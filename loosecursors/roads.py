"""Roads: with which shapes a listing may begin, and which shapes may follow which ones."""

from loosecursors.errors import InvalidRoad, UnknownChange, UnknownShape
from loosecursors.shapes import are_shapes, is_shape


def is_change(thing):
    """Tell whether a thing is a tuple of two different shapes."""
    if not isinstance(thing, tuple) or len(thing) != 2:
        return False
    return is_shape(thing[0]) and is_shape(thing[1]) and thing[0] != thing[1]


def are_changes(thing):
    """Tell whether a thing is a list of different changes, perhaps an empty one."""
    if not isinstance(thing, list):
        return False
    return all([is_change(item) for item in thing]) and len(set(thing)) == len(thing)


def full_road(shapes):
    """Return the road that may begin with each of some shapes and has all changes between them."""
    if not are_shapes(shapes):
        raise InvalidRoad("the shapes are not a list of one or more different shapes")
    return Road(shapes, [(shape, other) for shape in shapes for other in shapes if shape != other])


class Road:
    """A road has shapes to begin with and changes from shapes to other ones, and does not change itself."""

    def __init__(self, begin, changes):
        if not are_shapes(begin) or not are_changes(changes):
            raise InvalidRoad("the shapes to begin with and the changes do not make a road")
        self._begin = sorted(begin)
        self._changes = sorted(changes)
        self._shapes = sorted(set(begin + [shape for change in changes for shape in change]))

    @property
    def begin(self):
        """The ascending list of the shapes with which a listing may begin."""
        return list(self._begin)

    @property
    def changes(self):
        """The ascending list of the changes."""
        return list(self._changes)

    @property
    def shapes(self):
        """The ascending list of the shapes with which a listing may begin and of those of the changes."""
        return list(self._shapes)

    def behind(self, shape):
        """Return the ascending list of the shapes that may follow a shape, itself among them."""
        # (True,) is found in the list as (1,) is, but it is no shape.
        if not is_shape(shape) or shape not in self._shapes:
            raise UnknownShape("the shape is none of the road")
        return sorted([shape] + [other for first, other in self._changes if first == shape])

    def without(self, changes):
        """Return the road without some of its changes."""
        if not are_changes(changes) or not all([change in self._changes for change in changes]):
            raise UnknownChange("the changes are not a list of different changes of the road")
        return Road(self._begin, [change for change in self._changes if change not in changes])

    def with_change(self, change):
        """Return the road with a further change."""
        # A road refuses what is no change, and one that it has already.
        return Road(self._begin, self._changes + [change])

    def __eq__(self, other):
        return isinstance(other, Road) and self._begin == other._begin and self._changes == other._changes
