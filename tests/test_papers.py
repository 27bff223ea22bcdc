"""Papers that bans cost at least a number, judged by the test itself."""

import copy
import itertools
import random
import unittest

from loosecursors.bans import cheapest_bans, is_ban
from loosecursors.errors import Always, InvalidNumber, InvalidPrices, Mismatch
from loosecursors.makers import counting, reversed_bits
from loosecursors.papers import is_paper, paper
from loosecursors.roads import Road, full_road
from loosecursors.rules import Rule
from tests.helpers import WRONG_NUMBERS, ExactCase, World, draw_bans, exact, near, odd_things, spoil_all, turned_about

ZERO, ONE, TWO, UP, DOWN = (0,), (1,), (2,), (0, 1), (1, 0)
SPENT = ("spent",)
GROW, SHRINK = (ZERO, ONE), (ONE, ZERO)


class Judge:
    """Judges papers by the situations of the roads without the changes that are forbidden."""

    def __init__(self, rule, road, prices):
        self.rule, self.road, self.prices = rule, road, prices
        self.worlds = {}

    def world(self, banned):
        key = tuple(sorted(banned))
        if key not in self.worlds:
            left = [change for change in self.road.changes if change not in banned]
            self.worlds[key] = World(self.rule, Road(self.road.begin, left))
        return self.worlds[key]

    def holds(self, number, thing, banned=()):
        if sum([self.prices[change] for change in banned]) >= number:
            return exact(thing) == exact(SPENT)
        if not isinstance(thing, tuple) or len(thing) != 4 or exact(thing[0]) != exact("missed"):
            return False
        _, code, run, trees = thing
        if exact(code) not in {str(number) for number in range(32)}:
            return False
        if not isinstance(run, list) or not isinstance(trees, list):
            return False
        world = self.world(banned)
        met = world.followed(run)
        if met is None or not world.ends(met[-1]) or any([world.lists(one, code) for one in met]):
            return False
        changes = sorted({(one[0], two[0]) for one, two in itertools.pairwise(met) if one[0] != two[0]})
        return len(trees) == len(changes) and all([self.holds(number, tree, banned + (change,))
                                                   for tree, change in zip(trees, changes)])


def needed(rule, road, prices):
    """The least sum of prices, or None if no bans help."""
    try:
        return cheapest_bans(rule, road, prices)[0]
    except Always:
        return None


def small():
    """Counting through two tables, with the run that misses a hash when the table shrinks."""
    shapes = [ZERO, ONE]
    return counting(shapes), full_road(shapes), {GROW: 5, SHRINK: 7}


def shrinking_run():
    return [(ONE, False), (ZERO, False)]


def deep():
    """A run of two changes of which either has to be forbidden, at different prices."""
    every = tuple((0, number) for number in range(4))
    rule = Rule(3, {ONE: [(((0, 0),), 1), (((0, 1),), None), (((0, 0), (0, 1)), None)],
                    TWO: [(every, None), ((), 2), (every, None)],
                    ZERO: [(((0, 0),), None), (((0, 0),), None), ((), None)]})
    return rule, Road([ONE], [(ONE, TWO), (TWO, ZERO)]), {(ONE, TWO): 3, (TWO, ZERO): 4}


class TestExamples(ExactCase):

    def test_the_example(self):
        self.example("""
>>> from loosecursors.makers import counting
>>> from loosecursors.papers import is_paper, paper
>>> from loosecursors.roads import full_road
>>> shapes = [(0,), (1,)]
>>> rule, road, prices = counting(shapes), full_road(shapes), {((0,), (1,)): 5, ((1,), (0,)): 7}
>>> is_paper(rule, road, prices, 7, ("missed", 1, [((1,), False), ((0,), False)], [("spent",)]))
True
>>> [paper(rule, road, prices, 8), paper(rule, road, prices, 0)]
[None, ('spent',)]
""")


class TestDrawn(ExactCase):

    def check(self, rule, road, prices, kinds):
        judge = Judge(rule, road, prices)
        least = needed(rule, road, prices)
        numbers = [0, 1, 2, 500, 10 ** 39] + ([] if least is None else [least, least + 1, max(least - 1, 0)])
        for number in numbers:
            tree = paper(rule, road, prices, number)
            if least is not None and number > least:
                self.assertIsNone(tree)
                kinds["none"] += 1
            else:
                self.assertIs(judge.holds(number, tree), True, (number, tree))
                self.assertIs(is_paper(rule, road, prices, number, tree), True)
                kinds["always" if least is None else "spent" if tree == SPENT else "trees"] += 1
            if least is not None:
                self.assertIs(is_paper(rule, road, prices, least + 1, tree), False)

    def test_papers(self):
        kinds = {"none": 0, "always": 0, "spent": 0, "trees": 0}
        for rand, rule, road, prices in draw_bans(261, 500):
            self.check(rule, road, prices, kinds)
        self.assertGreater(min(kinds.values()), 50, kinds)

    def test_seven_changes(self):
        kinds = {"none": 0, "always": 0, "spent": 0, "trees": 0}
        for rand, rule, road, prices in draw_bans(262, 400):
            if len(road.changes) == 7:
                self.check(rule, road, prices, kinds)
        self.assertGreater(kinds["trees"], 20, kinds)

    def test_what_is_near_a_paper(self):
        counts = {True: 0, False: 0}
        deepest = 0
        for rand, rule, road, prices in draw_bans(263, 300):
            least = needed(rule, road, prices)
            if least == 0:
                continue
            judge = Judge(rule, road, prices)
            tree = paper(rule, road, prices, least or 7)
            things = list(near(tree))
            deepest = max(deepest, exact(tree).count("missed"))
            for thing in rand.sample(things, min(len(things), 150)):
                good = judge.holds(least or 7, thing)
                counts[good] += 1
                self.assertIs(is_paper(rule, road, prices, least or 7, thing), good, repr(thing))
        self.assertGreater(min(counts.values()), 20, counts)
        self.assertGreater(deepest, 4)

    def test_papers_for_other_numbers(self):
        counts = {True: 0, False: 0}
        for rand, rule, road, prices in draw_bans(264, 200):
            least = needed(rule, road, prices)
            judge = Judge(rule, road, prices)
            tree = paper(rule, road, prices, 7 if least is None else least)
            for number in {0, 1, 2, 3, 4, 5, 6, 7, 8, 998, 999, 1000, 10 ** 39}:
                good = judge.holds(number, tree)
                counts[good] += 1
                self.assertIs(is_paper(rule, road, prices, number, tree), good)
        self.assertGreater(min(counts.values()), 50, counts)

    def test_runs_gone_through_several_times(self):
        for rand, rule, road, prices in draw_bans(265, 200):
            tree = paper(rule, road, prices, 1)
            if tree is not None and tree != SPENT:
                judge = Judge(rule, road, prices)
                for many in (2, 3, 4):
                    for run in (tree[2] * many, [step for step in tree[2] for _ in range(many)]):
                        thing = tree[:2] + (run,) + tree[3:]
                        self.assertIs(is_paper(rule, road, prices, 1, thing), judge.holds(1, thing))

    def test_any_run_that_misses_a_hash_will_do(self):
        """Longer runs, with other hashes, and with superfluous changes are papers, too."""
        rule, road, prices = small()
        every = {31: [(ONE, False), (ZERO, False)], 1: [(ONE, False), (ZERO, False)]}
        for code, run in every.items():
            self.assertIs(is_paper(rule, road, prices, 7, ("missed", code, run, [SPENT])), True)
        for code in range(0, 32, 2):
            self.assertIs(is_paper(rule, road, prices, 7, ("missed", code, shrinking_run(), [SPENT])), False)
        turning = Rule(4, {ZERO: [((), 1), ((), 2), ((), 3), ((), None)],
                           ONE: [(((0, 0),), 1), (((0, 0),), 2), (((0, 0),), 3), (((0, 0), (0, 1)), None)]})
        road, prices = Road([ONE], [GROW, SHRINK]), {GROW: 2, SHRINK: 2}
        long = [(ONE, False), (ZERO, False), (ONE, False), (ZERO, False)]
        self.assertIs(is_paper(turning, road, prices, 2, ("missed", 1, long, [SPENT, SPENT])), True)
        self.assertIs(is_paper(turning, road, prices, 2, ("missed", 1, long, [SPENT])), False)
        short = [(ONE, False), (ONE, False), (ONE, False), (ZERO, False)]
        self.assertIs(is_paper(turning, road, prices, 2, ("missed", 1, short, [SPENT])), True)
        self.assertIs(is_paper(turning, road, {GROW: 1, SHRINK: 2}, 2, ("missed", 1, long, [
            ("missed", 3, short, [SPENT]), SPENT])), True)
        self.assertIs(is_paper(turning, road, {GROW: 1, SHRINK: 2}, 2, ("missed", 1, long, [
            ("missed", 3, long, [SPENT, SPENT]), SPENT])), False)


class TestNumbers(ExactCase):

    def test_from_0_to_the_price_of_the_cheapest_bans(self):
        rule, road, prices = small()
        self.same(paper(rule, road, prices, 0), SPENT)
        for number in range(1, 8):
            self.same(paper(rule, road, prices, number), ("missed", 1, shrinking_run(), [SPENT]))
        for number in (8, 9, 12, 13, 1000, 10 ** 39):
            self.assertIsNone(paper(rule, road, prices, number))

    def test_nothing_is_missed(self):
        for shapes in ([ZERO], [ONE, TWO, UP]):
            rule, road = reversed_bits(shapes), full_road(shapes)
            prices = {change: 3 for change in road.changes}
            self.same(paper(rule, road, prices, 0), SPENT)
            for number in (1, 2, 3, 10 ** 39):
                self.assertIsNone(paper(rule, road, prices, number))
            self.assertIs(is_paper(rule, road, prices, 0, SPENT), True)
            self.assertIs(is_paper(rule, road, prices, 1, SPENT), False)

    def test_a_run_without_a_change_is_a_paper_for_any_number(self):
        rule, road = Rule(1, {ONE: [(((0, 0),), None)], ZERO: [((), None)]}), Road([ONE], [SHRINK])
        prices = {SHRINK: 1}
        for number in (1, 2, 999, 10 ** 39):
            tree = paper(rule, road, prices, number)
            self.assertIs(Judge(rule, road, prices).holds(number, tree), True)
            self.assertIs(is_paper(rule, road, prices, number, ("missed", 5, [(ONE, False)], [])), True)
            self.assertIs(is_paper(rule, road, prices, number, ("missed", 4, [(ONE, False)], [])), False)
            self.assertIs(is_paper(rule, road, prices, number, ("missed", 5, [(ONE, False)], [SPENT])), False)
        self.same(paper(rule, road, prices, 0), SPENT)
        self.assertIs(is_paper(rule, road, prices, 0, ("missed", 5, [(ONE, False)], [])), False)

    def test_no_changes_at_all(self):
        rule = Rule(1, {ONE: [(((0, 0),), None)]})
        self.same(paper(rule, Road([ONE], []), {}, 3), ("missed", 1, [(ONE, False)], []))
        self.assertIs(is_paper(rule, Road([ONE], []), {}, 3, ("missed", 1, [(ONE, False)], [])), True)
        sound = counting([ONE])
        self.assertIsNone(paper(sound, Road([ONE], []), {}, 1))
        self.same(paper(sound, Road([ONE], []), {}, 0), SPENT)

    def test_two_changes_one_dearer_than_the_other(self):
        rule, road, prices = deep()
        run = [(ONE, False), (TWO, False), (ZERO, False)]
        self.same(needed(rule, road, prices), 3)
        for number in (1, 2, 3):
            self.same(paper(rule, road, prices, number), ("missed", 1, run, [SPENT, SPENT]))
        self.assertIsNone(paper(rule, road, prices, 4))

    def test_trees_within_trees(self):
        rule, road = counting([ZERO, ONE, TWO]), full_road([ZERO, ONE, TWO])
        prices = {change: 10 for change in road.changes}
        for number in (10, 11, 20, 21, 30):
            tree = paper(rule, road, prices, number)
            self.assertIs(Judge(rule, road, prices).holds(number, tree), True)
            self.assertGreaterEqual(exact(tree).count("missed"), (number + 9) // 10)
        self.assertIsNone(paper(rule, road, prices, 31))

    def test_prices_put_in_in_other_orders(self):
        for rand, rule, road, prices in draw_bans(266, 80):
            for number in (0, 1, 7, 999):
                other = turned_about(rand, prices)
                first, second = paper(rule, road, prices, number), paper(rule, road, other, number)
                self.assertIs(first is None, second is None)
                if first is not None:
                    self.assertIs(is_paper(rule, road, other, number, first), True)


class TestJudged(ExactCase):
    """Single parts of papers that are wrong."""

    def check(self, good, thing, number=7):
        rule, road, prices = small()
        self.assertIs(is_paper(rule, road, prices, number, thing), good, repr(thing))

    def test_spent_too_early_or_missing(self):
        tree = ("missed", 1, shrinking_run(), [SPENT])
        self.check(True, tree)
        self.check(False, SPENT)
        self.check(False, ("missed", 1, shrinking_run(), [tree]))
        self.check(False, ("missed", 1, shrinking_run(), [("missed", 1, shrinking_run(), [])]))
        self.check(False, tree, 0)
        self.check(True, SPENT, 0)
        self.check(False, tree, 8)

    def test_spent_in_another_form(self):
        for thing in [["spent"], "spent", ("spent", ), ("spent", None), ("spent", "spent"), (("spent",),), ("Spent",),
                      ("spent ",), ("missed",), (), [], None, True, 0]:
            good = exact(thing) == exact(SPENT)
            self.check(good, thing, 0)
            self.check(good, ("missed", 1, shrinking_run(), [thing]))

    def test_other_numbers_runs_and_trees(self):
        run = shrinking_run()
        for code in range(32):
            self.check(code % 2 == 1, ("missed", code, run, [SPENT]))
        for code in [-1, 32, 33, True, None, "1", (1,), [1], 10 ** 39]:
            self.check(False, ("missed", code, run, [SPENT]))
        for other in [[], run[:1], run[1:], run[::-1], run * 2, tuple(run), [tuple(step) for step in run[::-1]],
                      [list(step) for step in run], [(ONE, 0), (ZERO, 0)], [(ONE, False), (ZERO, True)], None, 7,
                      [((True,), False), (ZERO, False)], [(ONE, False), ((False,), False)], [(ONE, False), (TWO, False)],
                      [((1, 0), False), (ZERO, False)], [(ONE, None), (ZERO, None)], [(ONE,), (ZERO,)], [ONE, ZERO]]:
            self.check(False, ("missed", 1, other, [SPENT]))
        for trees in [[], [SPENT, SPENT], (SPENT,), SPENT, {}, None, [[SPENT]], {0: SPENT}, "spent", [None], 1]:
            self.check(False, ("missed", 1, run, trees))
        for thing in [("missed", 1, run), ("missed", 1, run, [SPENT], None), ["missed", 1, run, [SPENT]],
                      ("Missed", 1, run, [SPENT]), ("spent", 1, run, [SPENT]), (None, 1, run, [SPENT]),
                      (1, "missed", run, [SPENT]), ("missed", run, 1, [SPENT]), ("missed", 1, [SPENT], run)]:
            self.check(False, thing)

    def test_a_run_that_is_not_whole(self):
        rule = Rule(2, {ONE: [((), 1), (((0, 0),), None)], ZERO: [(((0, 0),), None), ((), 0)]})
        road, prices = full_road([ZERO, ONE]), {GROW: 1, SHRINK: 1}
        self.assertIs(is_paper(rule, road, prices, 1, ("missed", 1, [(ONE, False), (ONE, False)], [])), True)
        self.assertIs(is_paper(rule, road, prices, 1, ("missed", 0, [(ONE, False), (ZERO, False)], [SPENT])), False)
        self.assertIs(is_paper(rule, road, prices, 1, ("missed", 0, [(ONE, False)], [])), False)

    def test_a_run_that_makes_a_forbidden_change(self):
        rule, road, prices = deep()
        run = [(ONE, False), (TWO, False), (ZERO, False)]
        again = ("missed", 1, run, [SPENT, SPENT])
        self.assertIs(is_paper(rule, road, prices, 3, again), True)
        self.assertIs(is_paper(rule, road, prices, 4, ("missed", 1, run, [again, SPENT])), False)
        self.assertIs(is_paper(rule, road, prices, 4, ("missed", 1, run, [("missed", 1, run, []), SPENT])), False)
        self.assertIs(is_paper(rule, road, prices, 5, ("missed", 1, run, [again, again])), False)

    def test_trees_left_out_put_in_twice_and_exchanged(self):
        rule, road = counting([ZERO, ONE, TWO]), full_road([ZERO, ONE, TWO])
        prices = {change: 10 + index for index, change in enumerate(road.changes)}
        judge = Judge(rule, road, prices)
        least = needed(rule, road, prices)
        tree = paper(rule, road, prices, least)
        run = [(ONE, False), (TWO, False), (ONE, False)]
        other = ("missed", 3, run, [tree, tree])
        self.assertIs(is_paper(rule, road, prices, least, other), judge.holds(least, other))
        both = [paper(rule, road.without([change]), {one: prices[one] for one in prices if one != change},
                      least - prices[change]) for change in [(ONE, TWO), (TWO, ONE)]]
        good = ("missed", 3, run, both)
        self.assertIs(judge.holds(least, good), True)
        self.assertIs(is_paper(rule, road, prices, least, good), True)
        for trees in (both[::-1], both[:1], both[1:], both + both[1:], both[:1] * 2, tuple(both), []):
            thing = ("missed", 3, run, trees)
            self.assertIs(is_paper(rule, road, prices, least, thing), judge.holds(least, thing))
        self.assertIs(is_paper(rule, road, prices, least, ("missed", 3, run, both[::-1])), False)

    def test_objects_of_all_kinds(self):
        rule, road, prices = small()
        tree = ("missed", 1, shrinking_run(), [SPENT])
        judge = Judge(rule, road, prices)
        for thing in odd_things() + [rule, road, prices, [tree], [SPENT], (tree,), {"spent": 1}]:
            self.check(False, thing)
            self.check(False, thing, 0)
            for index in range(4):
                other = tree[:index] + (thing,) + tree[index + 1:]
                self.check(judge.holds(7, other), other)
            self.check(exact(thing) == exact((ZERO, False)), ("missed", 1, [(ONE, False), thing], [SPENT]))
            self.check(False, ("missed", 1, shrinking_run(), [thing]))

    def test_trees_of_any_depth(self):
        tree = SPENT
        for _ in range(20000):
            tree = ("missed", 1, shrinking_run(), [tree])
        rule, road, prices = small()
        self.assertIs(is_paper(rule, road, prices, 7, tree), False)
        self.assertIs(is_paper(rule, road, prices, 0, tree), False)
        while tree != SPENT:
            tree = tree[3].pop()


class TestErrors(ExactCase):

    def both(self, error, rule, road, prices, number):
        self.raises(error, paper, rule, road, prices, number)
        self.raises(error, is_paper, rule, road, prices, number, SPENT)
        self.raises(error, is_paper, rule, road, prices, number, None)

    def test_mismatch_comes_first(self):
        rule, road, prices = small()
        for one, other in [(rule, full_road([ZERO, TWO])), (rule.with_shapes([ONE]), road), (rule, Road([UP], []))]:
            for bad in [{change: 1 for change in other.changes}, {}, None, []]:
                for number in [0] + WRONG_NUMBERS:
                    self.both(Mismatch, one, other, bad, number)

    def test_invalid_prices_then_invalid_numbers(self):
        rule, road, prices = small()
        wrong = [{}, {GROW: 1}, {GROW: 1, SHRINK: 0}, {GROW: 1000, SHRINK: 1}, {GROW: 1, SHRINK: True}, None, True,
                 {GROW: 1, SHRINK: "1"}, {GROW: 1, SHRINK: 1, (ONE, TWO): 1}, [(GROW, 1), (SHRINK, 1)], [5, 7],
                 {GROW: 1, ((True,), (0,)): 1}, rule, road]
        for bad in wrong:
            for number in [0, 7] + WRONG_NUMBERS:
                self.both(InvalidPrices, rule, road, bad, number)
        for number in WRONG_NUMBERS:
            self.both(InvalidNumber, rule, road, prices, number)

    def test_objects_of_all_kinds(self):
        rule, road, prices = small()
        for thing in odd_things() + [rule, road]:
            self.both(InvalidPrices, rule, road, thing, 7)
            if isinstance(thing, bool) or not isinstance(thing, int) or thing < 0:
                self.both(InvalidNumber, rule, road, prices, thing)

    def test_no_error_where_no_bans_help(self):
        rule, road = Rule(1, {ONE: [((), None)]}), Road([ONE], [])
        self.raises(Always, cheapest_bans, rule, road, {})
        self.same(is_paper(rule, road, {}, 1, paper(rule, road, {}, 1)), True)


class TestArguments(ExactCase):

    def test_what_is_returned_is_new(self):
        for rand, rule, road, prices in draw_bans(267, 60):
            number = needed(rule, road, prices) or 5
            tree = paper(rule, road, prices, number)
            text = exact(tree)
            if tree is not None:
                lists = list(lists_of(tree))
                self.same(len({id(rows) for rows in lists}), len(lists))
                for rows in lists:
                    spoil_all(rows)
                self.assertEqual(exact(paper(rule, road, prices, number)), text)

    def test_one_run_at_several_places_is_a_list_of_its_own_at_each(self):
        rule, road, prices = deep()
        three, four, calls = (3,), (4,), rule.calls
        for shape, row in calls.items():
            row.append(((), 0))
        for shape in (three, four):
            every = tuple((0, number) for number in range(2 ** shape[0]))
            calls[shape] = [((), 1), ((), 2), ((), 3), (every if shape == three else (), None)]
        road, prices = Road([ONE, three], road.changes + [(three, four)]), {**prices, (three, four): 5}
        tree = paper(Rule(4, calls), road, prices, 8)
        run, other = [(ONE, False), (TWO, False), (ZERO, False)], [(three, False)] * 3 + [(four, False)]
        within = ("missed", 0, other, [SPENT])
        self.same(tree, ("missed", 1, run, [within, within]))
        lists = list(lists_of(tree))
        self.same(len({id(rows) for rows in lists}), len(lists))

    def test_what_is_passed_stays_as_it_was(self):
        for rand, rule, road, prices in draw_bans(268, 60):
            number = needed(rule, road, prices) or 5
            before = exact((rule.cursors, rule.calls, road.begin, road.changes))
            tree = self.untouched(lambda prices, number: paper(rule, road, prices, number), prices, number)
            self.untouched(lambda prices, tree: is_paper(rule, road, prices, number, tree), prices, tree)
            self.assertEqual(exact((rule.cursors, rule.calls, road.begin, road.changes)), before)

    def test_the_prices_may_be_changed(self):
        rule, road, prices = small()
        tree = paper(rule, road, prices, 7)
        text = exact(tree)
        prices.clear()
        self.assertEqual(exact(tree), text)

    def test_by_name_in_another_order(self):
        rule, road, prices = small()
        tree = paper(number=7, prices=prices, road=road, rule=rule)
        self.same(tree, ("missed", 1, shrinking_run(), [SPENT]))
        self.assertIs(is_paper(thing=tree, number=7, prices=prices, road=road, rule=rule), True)
        self.raises(InvalidNumber, is_paper, thing=tree, number=-7, prices=prices, road=road, rule=rule)
        self.raises(InvalidPrices, paper, number=None, prices={}, road=road, rule=rule)

    def test_a_paper_that_shares_its_parts(self):
        """What is passed may hold one list at several places."""
        rule, road, prices = deep()
        run = [(ONE, False), (TWO, False), (ZERO, False)]
        tree = ("missed", 1, run, [SPENT] * 2)
        self.assertIs(is_paper(rule, road, prices, 3, tree), True)
        self.assertIs(is_paper(rule, road, prices, 3, copy.deepcopy(tree)), True)


class TestFacts(ExactCase):

    def test_bans_or_a_paper(self):
        """For every number there are bans that cost less, or a paper that there are none."""
        rand = random.Random(269)
        for _, rule, road, prices in draw_bans(270, 80, 4):
            sums = [sum([prices[change] for change in rows]) for size in range(len(prices) + 1)
                    for rows in itertools.combinations(road.changes, size) if is_ban(rule, road, list(rows))]
            for number in [0, 1, 5, 999, rand.randrange(3000)] + sums + [total + 1 for total in sums]:
                self.assertIs(paper(rule, road, prices, number) is None, any([total < number for total in sums]))


def lists_of(thing):
    """All lists in a thing, each as often as it stands there."""
    if isinstance(thing, list):
        yield thing
    if isinstance(thing, (list, tuple)):
        for item in thing:
            yield from lists_of(item)


if __name__ == "__main__":
    unittest.main()
