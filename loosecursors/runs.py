"""Runs: the shapes of a road at the calls of one listing by a rule, and whether a key is moved."""

from loosecursors.errors import InvalidRun, Mismatch
from loosecursors.roads import Road
from loosecursors.rules import Rule
from loosecursors.shapes import is_move, is_shape, place_of


def check_match(rule, road):
    """Raise Mismatch if a shape of the road is none of the rule."""
    # Objects of other kinds have no shapes that could belong together.
    if not isinstance(rule, Rule) or not isinstance(road, Road):
        raise Mismatch("a rule and a road are asked for")
    shapes = rule.shapes
    if not all([shape in shapes for shape in road.shapes]):
        raise Mismatch("a shape of the road is none of the rule")


def is_run(rule, road, thing):
    """Tell whether a thing is a run of a key on a road by a rule."""
    check_match(rule, road)
    return _follows(road, thing) and _states_of(rule, thing) is not None


def cursors_of(rule, road, run):
    """Return the cursors with which the calls of a run are made."""
    return [cursor for cursor, _ in _checked_states(rule, road, run)]


def lists_of(rule, road, run):
    """Return the tuples of places that the calls of a run list."""
    return [call[0] for _, call in _checked_states(rule, road, run)]


def is_whole(rule, road, run):
    """Tell whether the last call of a run ends the listing."""
    _, call = _checked_states(rule, road, run)[-1]
    return call[1] is None


def listed(rule, road, run, code):
    """Return a list that tells for each call of a run whether it lists a hash."""
    lists = lists_of(rule, road, run)
    # A run has at least one call, so that place_of refuses what is no hash.
    return [place_of(shape, code, moved) in found for (shape, moved), found in zip(run, lists)]


def _checked_states(rule, road, run):
    check_match(rule, road)
    states = _states_of(rule, run) if _follows(road, run) else None
    if states is None:
        raise InvalidRun("the run is none on this road by this rule")
    return states


def _follows(road, thing):
    """Tell whether a thing is a list of steps that the road has, whatever the cursors are."""
    if not isinstance(thing, list) or not thing:
        return False
    if not all([_is_step(item) for item in thing]) or thing[0][0] not in road.begin:
        return False
    changes = set(road.changes)
    for index in range(1, len(thing)):
        shape, other = thing[index - 1][0], thing[index][0]
        if shape != other and (shape, other) not in changes:
            return False
    return True


def _is_step(thing):
    return isinstance(thing, tuple) and len(thing) == 2 and is_shape(thing[0]) and is_move(thing[0], thing[1])


def _states_of(rule, run):
    """Return the tuples (cursor, call) of the calls of a run, or None if one goes on behind the end."""
    states = []
    cursor = 0
    for shape, _ in run:
        if cursor is None:
            return None
        call = rule.call(shape, cursor)
        states.append((cursor, call))
        cursor = call[1]
    return states
