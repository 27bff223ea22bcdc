"""Ends: after how many calls at most a listing ends, or the loop in which it can go on for ever."""

from loosecursors.runs import check_match
from loosecursors.states import (are_integers_of_states, check_bound, closes, greatest_sums, greatest_way, loop_way,
                                 states_at_begin, states_behind)


def longest(rule, road):
    """Return a tuple (number, run) of the greatest number of calls of a run, or None if there is none."""
    check_match(rule, road)
    behind = states_behind(rule, road)
    found = greatest_way(states_at_begin(road), behind, _one_for_each(behind))
    if found is None:
        return None
    number, way = found
    return (number, _run_of(way))


def heights(rule, road, number):
    """Return a paper that no run has more calls than a number, or None."""
    check_match(rule, road)
    check_bound(number)
    begin = states_at_begin(road)
    behind = states_behind(rule, road)
    sums = greatest_sums(begin, behind, _one_for_each(behind))
    if sums is None or any([sums[state] > number for state in begin]):
        return None
    return {state: sums[state] for state in sorted(sums)}


def is_heights(rule, road, number, thing):
    """Tell whether a thing is a paper that no run has more calls than a number."""
    check_match(rule, road)
    check_bound(number)
    behind = states_behind(rule, road)
    if not are_integers_of_states(behind, thing) or not all([height >= 1 for height in thing.values()]):
        return False
    if not all([state in thing and thing[state] <= number for state in states_at_begin(road)]):
        return False
    return all([other in thing and thing[other] < thing[state] for state in thing for other in behind[state]])


def loop(rule, road):
    """Return a tuple (run, index) such that the state with the index can be the next one, or None."""
    check_match(rule, road)
    behind = states_behind(rule, road)
    found = loop_way(states_at_begin(road), behind, _one_for_each(behind))
    if found is None:
        return None
    way, index = found
    return (_run_of(way), index)


def is_loop(rule, road, thing):
    """Tell whether a thing is a tuple (run, index) such that the state with the index can be the next one."""
    check_match(rule, road)
    return closes(rule, road, thing)


def _one_for_each(behind):
    return {state: 1 for state in behind}


def _run_of(way):
    return [(shape, False) for shape, _ in way]
