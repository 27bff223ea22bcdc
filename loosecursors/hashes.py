"""What can be said of all hashes at once."""

from loosecursors.bits import GREATEST_HASH, buckets_of
from loosecursors.missed import missed_run
from loosecursors.runs import check_match
from loosecursors.times import most_times


def alike_hashes(road):
    """Return the ascending list of the lists of hashes that are at the same places in all shapes of a road."""
    # Remainders by all numbers of buckets are the same if those by the greatest one are.
    many = buckets_of(max([max(shape) for shape in road.shapes]))
    return [list(range(number, GREATEST_HASH + 1, many)) for number in range(many)]


def verdicts(rule, road):
    """Return the dict from each hash to a tuple: whether a run misses it, and how often it is listed at most."""
    check_match(rule, road)
    found = {}
    for codes in alike_hashes(road):
        misses = missed_run(rule, road, codes[0]) is not None
        most = most_times(rule, road, codes[0])
        for code in codes:
            found[code] = (misses, None if most is None else most[0])
    return {code: found[code] for code in sorted(found)}


def first_missed(rule, road):
    """Return a tuple (code, run) of the least hash that is missed with as few calls as any, or None."""
    check_match(rule, road)
    found = None
    for codes in alike_hashes(road):
        run = missed_run(rule, road, codes[0])
        if run is not None and (found is None or len(run) < len(found[1])):
            found = (codes[0], run)
    return found
