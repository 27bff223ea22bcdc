"""Papers that bans cost at least a number: trees of runs that miss hashes, and of their changes."""

from loosecursors.bans import Gaps, changes_in, check_prices
from loosecursors.bits import is_hash
from loosecursors.runs import is_run, is_whole, listed
from loosecursors.states import check_bound


def paper(rule, road, prices, number):
    """Return a paper that bans cost at least a number, or None if cheaper bans are enough."""
    check_prices(rule, road, prices)
    check_bound(number)
    gaps = Gaps(rule, road)
    # A run without a change needs no trees, so that it is looked for first.
    gaps.left_by(road.changes)
    return _tree_behind(gaps, prices, number, [])


def is_paper(rule, road, prices, number, thing):
    """Tell whether a thing is a paper that bans cost at least a number."""
    check_prices(rule, road, prices)
    check_bound(number)
    rest = [(thing, [])]
    while rest:
        tree, banned = rest.pop()
        if _is_spent(prices, number, banned):
            if tree != ("spent",):
                return False
        elif _is_missed(rule, road, banned, tree):
            for part, change in zip(tree[3], changes_in(tree[2])):
                rest.append((part, banned + [change]))
        else:
            return False
    return True


def _tree_behind(gaps, prices, number, banned):
    """Return the tree on the way to which some changes are forbidden, or None."""
    if _is_spent(prices, number, banned):
        return ("spent",)
    gap = gaps.left_by(banned)
    if gap is None:
        return None
    code, run = gap
    trees = []
    for change in changes_in(run):
        tree = _tree_behind(gaps, prices, number, banned + [change])
        if tree is None:
            return None
        trees.append(tree)
    return ("missed", code, list(run), trees)


def _is_spent(prices, number, banned):
    return sum([prices[change] for change in banned]) >= number


def _is_missed(rule, road, banned, tree):
    """Tell whether a tree has a run that makes no change that is forbidden and misses a hash, and its trees."""
    if not isinstance(tree, tuple) or len(tree) != 4 or tree[0] != "missed":
        return False
    _, code, run, trees = tree
    if not is_hash(code) or not isinstance(trees, list) or not is_run(rule, road, run):
        return False
    changes = changes_in(run)
    if len(trees) != len(changes) or any([change in banned for change in changes]):
        return False
    return is_whole(rule, road, run) and not any(listed(rule, road, run, code))
