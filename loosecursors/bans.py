"""Changes that are forbidden, as cheaply as possible, so that no hash is missed."""

from heapq import heappop, heappush
from loosecursors.bits import is_between
from loosecursors.errors import Always, InvalidPrices, UnknownChange
from loosecursors.hashes import alike_hashes, first_missed
from loosecursors.missed import missed_run
from loosecursors.roads import is_change
from loosecursors.runs import check_match

GREATEST_PRICE = 999


def cheapest_bans(rule, road, prices):
    """Return a tuple of the least sum of prices of changes without which no hash is missed, and of these changes."""
    check_prices(rule, road, prices)
    gaps = Gaps(rule, road)
    gap = gaps.left_by(road.changes)
    if gap is not None:
        raise Always(gap[1])
    queue = []
    seen = set()
    price = 0
    banned = ()
    gap = gaps.left_by(banned)
    while gap is not None:
        # At least one change of a run has to be forbidden so that it is none.
        for change in changes_in(gap[1]):
            more = tuple(sorted([*banned, change]))
            if more not in seen:
                seen.add(more)
                heappush(queue, (price + prices[change], more))
        price, banned = heappop(queue)
        gap = gaps.left_by(banned)
    return (price, list(banned))


def is_ban(rule, road, thing):
    """Tell whether a thing is a list of different changes of a road without which no hash is missed."""
    check_match(rule, road)
    try:
        rest = road.without(thing)
    except UnknownChange:
        return False
    return first_missed(rule, rest) is None


def check_prices(rule, road, prices):
    """Raise Mismatch, or InvalidPrices if a thing is not a dict from all changes of a road to prices."""
    check_match(rule, road)
    if not isinstance(prices, dict) or not _are_prices(road.changes, prices):
        raise InvalidPrices("the prices are not a dict from all changes of the road to integers from 1 to 999")


def changes_in(run):
    """Return the ascending list of the different changes in a run."""
    shapes = [shape for shape, _ in run]
    return sorted(set([(shape, other) for shape, other in zip(shapes, shapes[1:]) if shape != other]))


class Gaps:
    """Gaps are tuples (code, run) of hashes of a road and runs that miss them; those found are kept."""

    def __init__(self, rule, road):
        self._rule = rule
        self._road = road
        self._found = []

    def left_by(self, banned):
        """Return a gap on the road without some changes, one with the fewest changes of those found, or None."""
        # A run that makes none of these changes is one on the road without them, so that no search is needed.
        left = []
        for gap in self._found:
            changes = changes_in(gap[1])
            if not any([change in banned for change in changes]):
                left.append((len(changes), gap))
        if left:
            return min(left)[1]
        gap = _first_gap(self._rule, self._road.without(list(banned)))
        if gap is not None:
            self._found.append(gap)
        return gap


def _first_gap(rule, road):
    """Return the gap with the first in ascending order of the shortest runs, or None."""
    found = []
    for codes in alike_hashes(road):
        run = missed_run(rule, road, codes[0])
        if run is not None:
            found.append((len(run), run, codes[0]))
    if not found:
        return None
    _, run, code = min(found)
    return (code, run)


def _are_prices(changes, prices):
    if len(prices) != len(changes):
        return False
    # ((True,), (0,)) is found in the list as ((1,), (0,)) is, but it is no change.
    return all([is_change(change) and change in changes and is_between(price, 1, GREATEST_PRICE)
                for change, price in prices.items()])
