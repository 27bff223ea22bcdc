"""How often a hash is listed at most, or the loop in which it is listed again and again."""

from loosecursors.bits import check_hash, is_integer
from loosecursors.runs import check_match, listed
from loosecursors.shapes import moves_of
from loosecursors.states import (behind_and_unlisted, check_bound, closes, greatest_sums, greatest_way, is_situation,
                                 loop_way, situations_of, states_at_begin)


def most_times(rule, road, code):
    """Return a tuple (number, run) of the greatest number of calls of a run that list a hash, or None."""
    behind, unlisted = behind_and_unlisted(rule, road, code)
    found = greatest_way(states_at_begin(road), behind, _weights(unlisted))
    if found is None:
        return None
    number, way = found
    return (number, _run_of(way, unlisted))


def times_heights(rule, road, code, number):
    """Return a paper that no run lists a hash more often than a number, or None."""
    behind, unlisted = behind_and_unlisted(rule, road, code)
    check_bound(number)
    begin = states_at_begin(road)
    sums = greatest_sums(begin, behind, _weights(unlisted))
    if sums is None or any([sums[state] > number for state in begin]):
        return None
    paper = {}
    for state in sums:
        rest = max([sums[other] for other in behind[state]], default=0)
        for situation in situations_of(state):
            paper[situation] = rest + (1 if _lists(unlisted, situation) else 0)
    return {situation: paper[situation] for situation in sorted(paper)}


def is_times_heights(rule, road, code, number, thing):
    """Tell whether a thing is a paper that no run lists a hash more often than a number."""
    behind, unlisted = behind_and_unlisted(rule, road, code)
    check_bound(number)
    if not isinstance(thing, dict):
        return False
    if not all([is_situation(behind, key) and is_integer(height) for key, height in thing.items()]):
        return False
    begin = [key for state in states_at_begin(road) for key in situations_of(state)]
    if not all([key in thing and thing[key] <= number for key in begin]):
        return False
    return all([_is_high(thing, key, behind, unlisted) for key in thing])


def times_loop(rule, road, code):
    """Return a tuple (run, index) such that a call of the loop lists a hash, or None."""
    behind, unlisted = behind_and_unlisted(rule, road, code)
    found = loop_way(states_at_begin(road), behind, _weights(unlisted))
    if found is None:
        return None
    way, index = found
    return (_run_of(way, unlisted), index)


def is_times_loop(rule, road, code, thing):
    """Tell whether a thing is a tuple (run, index) such that a call of the loop lists a hash."""
    check_match(rule, road)
    check_hash(code)
    if not closes(rule, road, thing):
        return False
    run, index = thing
    return any(listed(rule, road, run, code)[index:])


def _lists(unlisted, situation):
    shape, moved, cursor = situation
    return moved not in unlisted[(shape, cursor)]


def _listed_moves(state, unlisted):
    return [moved for moved in moves_of(state[0]) if moved not in unlisted[state]]


def _weights(unlisted):
    """Return the dict from each state to 1 if its call can list the hash, otherwise 0."""
    return {state: 1 if _listed_moves(state, unlisted) else 0 for state in unlisted}


def _run_of(way, unlisted):
    """Return a run through the states of a way that lists the hash as often as possible."""
    return [(state[0], (_listed_moves(state, unlisted) or [False])[0]) for state in way]


def _is_high(thing, situation, behind, unlisted):
    """Tell whether the integer of a situation is great enough beside those behind it."""
    shape, _, cursor = situation
    least = 1 if _lists(unlisted, situation) else 0
    if thing[situation] < least:
        return False
    following = [key for state in behind[(shape, cursor)] for key in situations_of(state)]
    return all([key in thing and thing[key] + least <= thing[situation] for key in following])
