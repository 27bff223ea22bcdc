"""Least numbers: how many calls a whole run has at least, and how many of them list a hash."""

from loosecursors.runs import check_match
from loosecursors.states import (are_integers_of_states, behind_and_unlisted, check_bound, ends_of, first_way,
                                 lightest_way, met_from, states_ahead, states_at_begin, states_behind)


def fewest_calls(rule, road):
    """Return a tuple (number, run) of the least number of calls of a whole run, or None if none is whole."""
    check_match(rule, road)
    behind = states_behind(rule, road)
    way = first_way(states_at_begin(road), behind, ends_of(behind))
    if way is None:
        return None
    return (len(way), [(shape, False) for shape, _ in way])


def fewest_times(rule, road, code):
    """Return a tuple (number, run) of the least number of calls of a whole run that list a hash, or None."""
    behind, unlisted = behind_and_unlisted(rule, road, code)
    weights = {state: 0 if unlisted[state] else 1 for state in unlisted}
    way = lightest_way(states_at_begin(road), behind, weights, ends_of(behind))
    if way is None:
        return None
    return (sum([weights[state] for state in way]), [(state[0], (unlisted[state] or [False])[0]) for state in way])


def depths(rule, road, number):
    """Return a paper that no whole run has fewer calls than a number, or None."""
    check_match(rule, road)
    check_bound(number)
    begin = states_at_begin(road)
    behind = states_behind(rule, road)
    met = met_from(begin, behind)
    found = _calls_to_end(met, behind)
    # Where no end can be met, any integer does that is great enough for the number and for the states ahead.
    endless = max(number, len(met))
    paper = {state: found[state] if state in found else endless for state in sorted(met)}
    if any([paper[state] < number for state in begin]):
        return None
    return paper


def is_depths(rule, road, number, thing):
    """Tell whether a thing is a paper that no whole run has fewer calls than a number."""
    check_match(rule, road)
    check_bound(number)
    behind = states_behind(rule, road)
    if not are_integers_of_states(behind, thing):
        return False
    if not all([state in thing and thing[state] >= number for state in states_at_begin(road)]):
        return False
    return all([_is_low(thing, state, behind[state]) for state in thing])


def _calls_to_end(met, behind):
    """Return the dict from each state from which an end can be met to the least number of calls up to it."""
    ahead = states_ahead(met, behind)
    found = {state: 1 for state in met if not behind[state]}
    queue = list(found)
    index = 0
    while index < len(queue):
        state = queue[index]
        for other in ahead[state]:
            if other not in found:
                found[other] = found[state] + 1
                queue.append(other)
        index += 1
    return found


def _is_low(thing, state, following):
    """Tell whether the integer of a state is small enough beside those behind it."""
    if not following:
        return thing[state] <= 1
    return all([other in thing and thing[state] <= thing[other] + 1 for other in following])
