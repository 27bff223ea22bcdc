"""Rules that do the same, or a shortest row of shapes that tells them apart."""

from loosecursors.bits import is_between
from loosecursors.errors import Mismatch
from loosecursors.rules import Rule


def apart(rule, other):
    """Return the first in ascending order of the shortest rows of shapes that tell two rules apart, or None."""
    _check_shapes(rule, other)
    return first_row(rule, other, (0, 0))


def do_the_same(rule, other):
    """Tell whether two rules do the same."""
    return apart(rule, other) is None


def pairs(rule, other):
    """Return the ascending list of the pairs of cursors with which calls are made together, or None."""
    _check_shapes(rule, other)
    came, found = _searched(rule, other, (0, 0))
    return sorted(came) if found is None else None


def is_together(rule, other, thing):
    """Tell whether a thing is a list of pairs of cursors that shows that two rules do the same."""
    _check_shapes(rule, other)
    if not isinstance(thing, list) or not all([_is_pair(rule, other, item) for item in thing]):
        return False
    inside = {pair: True for pair in thing}
    if len(inside) != len(thing) or (0, 0) not in inside:
        return False
    for one, two in _calls_beside(rule, other, thing):
        if _differ(one, two) or one[1] is not None and (one[1], two[1]) not in inside:
            return False
    return True


def first_row(rule, other, pair):
    """Return the first of the shortest rows that tell apart two rules that begin with a pair of cursors, or None."""
    came, found = _searched(rule, other, pair)
    if found is None:
        return None
    here, shape = found
    row = [shape]
    while came[here] is not None:
        here, shape = came[here]
        row.append(shape)
    return row[::-1]


def _searched(rule, other, pair):
    """Search pairs in breadth: return from where each one came, and the first pair and shape that differ, or None."""
    calls = rule.calls
    others = other.calls
    came = {pair: None}
    met = [pair]
    index = 0
    # Pairs are met in the ascending order of the first rows to them, as shapes are gone through in order.
    while index < len(met):
        here = met[index]
        for shape in calls:
            one, two = calls[shape][here[0]], others[shape][here[1]]
            if _differ(one, two):
                return (came, (here, shape))
            later = (one[1], two[1])
            if one[1] is not None and later not in came:
                came[later] = (here, shape)
                met.append(later)
        index += 1
    return (came, None)


def _differ(one, two):
    """Tell whether two calls list other places, or just one of them ends."""
    return one[0] != two[0] or (one[1] is None) != (two[1] is None)


def _calls_beside(rule, other, rows):
    """Return the list of the tuples of the two calls for each of some pairs of cursors and each shape."""
    calls = rule.calls
    others = other.calls
    return [(calls[shape][cursor], others[shape][beside]) for shape in calls for cursor, beside in rows]


def _check_shapes(rule, other):
    # Objects of other kinds have no shapes that could be the same.
    if not isinstance(rule, Rule) or not isinstance(other, Rule) or rule.shapes != other.shapes:
        raise Mismatch("two rules with the same shapes are asked for")


def _is_pair(rule, other, thing):
    if not isinstance(thing, tuple) or len(thing) != 2:
        return False
    return is_between(thing[0], 0, rule.cursors - 1) and is_between(thing[1], 0, other.cursors - 1)
