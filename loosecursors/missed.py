"""Missed keys: a shortest run that misses a hash, or a closed set of situations, which excludes it."""

from loosecursors.states import (behind_and_unlisted, ends_of, first_way, is_situation, met_from, situations_of,
                                 states_at_begin)


def missed_run(rule, road, code):
    """Return the first in ascending order of the shortest runs that miss a hash, or None."""
    behind, unlisted = behind_and_unlisted(rule, road, code)
    goals = {state: True for state in ends_of(behind) if unlisted[state]}
    way = first_way(states_at_begin(road), _behind_unlisted(behind, unlisted), goals)
    if way is None:
        return None
    return [(shape, unlisted[(shape, cursor)][0]) for shape, cursor in way]


def closed_set(rule, road, code):
    """Return a closed set for a hash, or None if there is a run that misses it."""
    behind, unlisted = behind_and_unlisted(rule, road, code)
    met = met_from(states_at_begin(road), _behind_unlisted(behind, unlisted))
    if any([unlisted[state] and not behind[state] for state in met]):
        return None
    return sorted([situation for state in met for situation in situations_of(state)])


def is_closed(rule, road, code, thing):
    """Tell whether a thing is a closed set for a hash, in any order."""
    behind, unlisted = behind_and_unlisted(rule, road, code)
    if not isinstance(thing, list) or not all([is_situation(behind, item) for item in thing]):
        return False
    inside = {item: True for item in thing}
    if len(inside) != len(thing) or not _holds_all(inside, states_at_begin(road)):
        return False
    for shape, moved, cursor in thing:
        following = behind[(shape, cursor)]
        if moved in unlisted[(shape, cursor)] and (not following or not _holds_all(inside, following)):
            return False
    return True


def concerns(rule, road, code):
    """Return the ascending list of the states of the calls of runs up to the first one that lists a hash."""
    behind, unlisted = behind_and_unlisted(rule, road, code)
    return sorted(met_from(states_at_begin(road), _behind_unlisted(behind, unlisted)))


def _behind_unlisted(behind, unlisted):
    return {state: behind[state] if unlisted[state] else [] for state in behind}


def _holds_all(inside, states):
    """Tell whether all situations of some states are inside."""
    return all([situation in inside for state in states for situation in situations_of(state)])
