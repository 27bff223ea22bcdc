"""States, which are tuples (shape, cursor): which ones are behind others, and the ways that lead through them.

Whether a key is moved is free at each call, so that a way through states stands for all runs through its situations.
"""

from heapq import heapify, heappop, heappush
from loosecursors.bits import check_hash, is_between, is_integer
from loosecursors.errors import InvalidNumber
from loosecursors.runs import check_match, cursors_of, is_run
from loosecursors.shapes import is_move, is_shape, moves_of, place_of


def check_bound(number):
    """Raise InvalidNumber if a thing is not an integer from 0 on."""
    if not is_integer(number) or number < 0:
        raise InvalidNumber("the number is not an integer from 0 on")


def states_at_begin(road):
    """Return the ascending list of the states of the first calls of runs."""
    return [(shape, 0) for shape in road.begin]


def states_behind(rule, road):
    """Return the dict from each state to the ascending list of those behind it, which is empty for an end."""
    calls = rule.calls
    behind = {}
    for shape in road.shapes:
        following = road.behind(shape)
        for cursor, (_, later) in enumerate(calls[shape]):
            behind[(shape, cursor)] = [] if later is None else [(other, later) for other in following]
    return behind


def unlisted_moves(rule, road, code):
    """Return the dict from each state to the list of what moved is where its call does not list a hash."""
    calls = rule.calls
    unlisted = {}
    for shape in road.shapes:
        spots = [(moved, place_of(shape, code, moved)) for moved in moves_of(shape)]
        for cursor, (found, _) in enumerate(calls[shape]):
            unlisted[(shape, cursor)] = [moved for moved, spot in spots if spot not in found]
    return unlisted


def behind_and_unlisted(rule, road, code):
    """Return the answers of states_behind and unlisted_moves for a road and a hash that are checked first."""
    check_match(rule, road)
    check_hash(code)
    return (states_behind(rule, road), unlisted_moves(rule, road, code))


def situations_of(state):
    """Return the ascending list of the situations of a state."""
    shape, cursor = state
    return [(shape, moved, cursor) for moved in moves_of(shape)]


def is_state(behind, thing):
    """Tell whether a thing is one of the states that have others behind them."""
    # (True,) is found in the dict as (1,) is, but it is no shape.
    if not isinstance(thing, tuple) or len(thing) != 2:
        return False
    return is_shape(thing[0]) and is_integer(thing[1]) and thing in behind


def are_integers_of_states(behind, thing):
    """Tell whether a thing is a dict from some of the states that have others behind them to integers."""
    if not isinstance(thing, dict):
        return False
    return all([is_state(behind, key) and is_integer(number) for key, number in thing.items()])


def is_situation(behind, thing):
    """Tell whether a thing is a situation of one of the states that have others behind them."""
    if not isinstance(thing, tuple) or len(thing) != 3:
        return False
    shape, moved, cursor = thing
    return is_state(behind, (shape, cursor)) and is_move(shape, moved)


def closes(rule, road, thing):
    """Tell whether a thing is a tuple (run, index) such that the state with the index can be the next one."""
    if not isinstance(thing, tuple) or len(thing) != 2:
        return False
    run, index = thing
    if not is_run(rule, road, run) or not is_between(index, 0, len(run) - 1):
        return False
    cursors = cursors_of(rule, road, run)
    states = [(shape, cursor) for (shape, _), cursor in zip(run, cursors)]
    return states[index] in states_behind(rule, road)[states[-1]]


def ends_of(behind):
    """Return the dict with the states whose calls end the listing as keys."""
    return {state: True for state in behind if not behind[state]}


def states_ahead(met, behind):
    """Return the dict from each of the states met to the list of those that it is behind."""
    ahead = {state: [] for state in met}
    for state in met:
        for other in behind[state]:
            ahead[other].append(state)
    return ahead


def met_from(begin, behind):
    """Return the list of the states to which ways lead, in the order in which a search in breadth meets them."""
    met = list(begin)
    seen = set(begin)
    index = 0
    while index < len(met):
        state = met[index]
        for other in behind[state]:
            if other not in seen:
                seen.add(other)
                met.append(other)
        index += 1
    return met


def first_way(begin, behind, goals):
    """Return the first in ascending order of the shortest ways to goals, or None."""
    # States are met in the ascending order of the first ways to them, as begin and all lists behind are ascending.
    came = {state: None for state in begin}
    met = list(begin)
    index = 0
    while index < len(met):
        state = met[index]
        if state in goals:
            return _way_to(state, came)
        for other in behind[state]:
            if other not in came:
                came[other] = state
                met.append(other)
        index += 1
    return None


def lightest_way(begin, behind, weights, goals):
    """Return a way to a goal with the least sum of weights, which are not negative, or None."""
    # Into a state one weight leads from everywhere, so that the first way to it is one of the lightest.
    came = {state: None for state in begin}
    queue = [(weights[state], state) for state in begin]
    heapify(queue)
    while queue:
        so_far, state = heappop(queue)
        if state in goals:
            return _way_to(state, came)
        for other in behind[state]:
            if other not in came:
                came[other] = state
                heappush(queue, (so_far + weights[other], other))
    return None


def greatest_sums(begin, behind, weights):
    """Return the dict from each state met to the greatest sum of weights from it on, or None if there is none."""
    sums = {}
    for group in _groups(begin, behind):
        if _has_loop(group, behind) and any([weights[state] for state in group]):
            return None
        # What is behind the group has its sums already; within it nothing has a weight, or nothing follows.
        found = []
        for state in group:
            found.append(weights[state] + max([sums[other] for other in behind[state] if other in sums], default=0))
        for state in group:
            sums[state] = max(found)
    return sums


def greatest_way(begin, behind, weights):
    """Return a tuple (sum, way) of the greatest sum of weights, each 0 or 1, of a way, or None if there is none."""
    sums = greatest_sums(begin, behind, weights)
    if sums is None:
        return None
    greatest = max([sums[state] for state in begin])
    way = []
    following = begin
    for rest in range(greatest, 0, -1):
        goals = {state: True for state in sums if weights[state] and sums[state] == rest}
        way = way + first_way(following, behind, goals)
        following = behind[way[-1]]
    return (greatest, way or begin[:1])


def loop_way(begin, behind, weights):
    """Return a tuple (way, index) such that the state with the index is behind the last one and has a weight."""
    for group in _groups(begin, behind):
        if _has_loop(group, behind):
            for state in group:
                if weights[state]:
                    there = first_way(begin, behind, {state: True})
                    back = first_way(behind[state], behind, {state: True})
                    return (there + back[:-1], len(there) - 1)
    return None


def _way_to(state, came):
    way = [state]
    while came[way[-1]] is not None:
        way.append(came[way[-1]])
    return way[::-1]


def _has_loop(group, behind):
    return len(group) > 1 or group[0] in behind[group[0]]


def _groups(begin, behind):
    """Return the lists of the states that lead to each other, each one later than those to which it leads."""
    done = _done_in_depth(begin, behind)
    ahead = states_ahead(done, behind)
    seen = set()
    groups = []
    # The last one that was done leads to all others, so what leads to it again is in its group.
    for first in reversed(done):
        group = []
        rest = [first]
        while rest:
            state = rest.pop()
            if state not in seen:
                seen.add(state)
                group.append(state)
                rest.extend(ahead[state])
        if group:
            groups.append(group)
    return groups[::-1]


def _done_in_depth(begin, behind):
    """Return the list of the states met, each one later than those to which it leads, loops excepted."""
    done = []
    seen = set()
    rest = [(state, False) for state in begin]
    while rest:
        state, is_done = rest.pop()
        if is_done:
            done.append(state)
        elif state not in seen:
            seen.add(state)
            rest.append((state, True))
            rest.extend([(other, False) for other in behind[state]])
    return done
