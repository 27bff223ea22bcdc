"""Changes that are forbidden so that no hash is missed, against all sets of changes."""

import itertools
import random
import unittest

from loosecursors.bans import cheapest_bans, is_ban
from loosecursors.errors import Always, InvalidPrices, Mismatch
from loosecursors.hashes import first_missed
from loosecursors.makers import counting, counting_down, reversed_bits
from loosecursors.missed import missed_run
from loosecursors.roads import Road, full_road
from loosecursors.rules import Rule
from loosecursors.runs import is_run, is_whole, listed
from tests.helpers import (SHAPES, ExactCase, World, draw_bans, draw_prices, exact, is_one_of, near, odd_things,
                           turned_about)

ZERO, ONE, TWO, UP, DOWN = (0,), (1,), (2,), (0, 1), (1, 0)


def subsets(changes):
    return [list(rows) for size in range(len(changes) + 1) for rows in itertools.combinations(changes, size)]


def all_bans(rule, road):
    """All ascending lists of changes without which no hash is missed, by trying all of them."""
    world = World(rule, road)
    return [rows for rows in subsets(sorted(road.changes))
            if not world.misses([change for change in road.changes if change not in rows])]


def sum_of(prices, changes):
    return sum([prices[change] for change in changes])


def is_ban_by_hand(bans, thing):
    """Whether a thing is one of some ascending lists, in any order."""
    return isinstance(thing, list) and any([sorted(exact(item) for item in thing) == sorted(exact(item) for item in ban)
                                            for ban in bans])


def course_by_hand(rule, road):
    """The first of the shortest runs of one shape alone that miss a hash, or None."""
    still = World(rule, Road(road.begin, []))
    runs = [still.missed(code) for code in range(32)]
    return min([(len(run), run) for run in runs if run is not None], default=(0, None))[1]


def grow_and_shrink():
    """Counting with tables of three widths misses something whenever one may become smaller."""
    return counting([ZERO, ONE, TWO]), full_road([ZERO, ONE, TWO])


class TestExamples(ExactCase):

    def test_the_example(self):
        self.example("""
>>> from loosecursors.bans import cheapest_bans, is_ban
>>> from loosecursors.makers import counting
>>> from loosecursors.roads import full_road
>>> shapes = [(0,), (1,)]
>>> rule, road = counting(shapes), full_road(shapes)
>>> [cheapest_bans(rule, road, {((0,), (1,)): 5, ((1,), (0,)): 7}), is_ban(rule, road, [((0,), (1,))])]
[(7, [((1,), (0,))]), False]
""")


class TestDrawn(ExactCase):

    def check(self, rule, road, prices, kinds):
        course = course_by_hand(rule, road)
        if course is not None:
            error = self.raises(Always, cheapest_bans, rule, road, prices)
            self.same(error.course, course)
            kinds["always"] += 1
            return
        bans = all_bans(rule, road)
        price, changes = found = cheapest_bans(rule, road, prices)
        self.assertIs(found.__class__, tuple)
        self.same(price, min([sum_of(prices, rows) for rows in bans]))
        self.assertTrue(is_one_of(changes, bans), (changes, bans))
        self.same(sum_of(prices, changes), price)
        self.assertIs(is_ban(rule, road, changes), True)
        kinds[min(len(changes), 3)] += 1

    def test_cheapest_bans(self):
        kinds = {"always": 0, 0: 0, 1: 0, 2: 0, 3: 0}
        for rand, rule, road, prices in draw_bans(251, 700):
            self.check(rule, road, prices, kinds)
        self.assertGreater(min(kinds.values()), 15, kinds)

    def test_seven_changes(self):
        kinds = {"always": 0, 0: 0, 1: 0, 2: 0, 3: 0}
        for rand, rule, road, prices in draw_bans(252, 500):
            if len(road.changes) == 7:
                self.check(rule, road, prices, kinds)
        self.assertGreater(kinds[3], 2, kinds)

    def test_all_subsets(self):
        counts = {True: 0, False: 0}
        for rand, rule, road, prices in draw_bans(253, 60, 5):
            bans = all_bans(rule, road)
            for rows in subsets(sorted(road.changes)):
                good = rows in bans
                counts[good] += 1
                rand.shuffle(rows)
                self.assertIs(is_ban(rule, road, rows), good)
        self.assertGreater(min(counts.values()), 100, counts)

    def test_makers(self):
        rand = random.Random(254)
        kinds = {"always": 0, 0: 0, 1: 0, 2: 0, 3: 0}
        for _ in range(40):
            shapes = rand.sample([shape for shape in SHAPES if max(shape) < 4], rand.randrange(1, 5))
            full = full_road(shapes)
            road = Road(rand.sample(shapes, 1), rand.sample(full.changes, min(6, len(full.changes))))
            for maker in (counting, counting_down):
                self.check(maker(shapes), road, draw_prices(rand, road), kinds)
        self.assertGreater(min(kinds[1], kinds[2]), 2, kinds)


class TestPrices(ExactCase):

    def two_ways(self):
        """From ONE over TWO to ZERO: a hash is missed if both changes are allowed."""
        rule = Rule(3, {
            ONE: [(((0, 0),), 1), (((0, 1),), None), (((0, 0), (0, 1)), None)],
            TWO: [(((0, 0), (0, 1), (0, 2), (0, 3)), None), ((), 2), (((0, 0), (0, 1), (0, 2), (0, 3)), None)],
            ZERO: [(((0, 0),), None), (((0, 0),), None), ((), None)]})
        return rule, Road([ONE], [(ONE, TWO), (TWO, ZERO)])

    def test_one_of_two_changes_is_enough(self):
        rule, road = self.two_ways()
        self.same(missed_run(rule, road, 1), [(ONE, False), (TWO, False), (ZERO, False)])
        self.same(cheapest_bans(rule, road, {(ONE, TWO): 1, (TWO, ZERO): 2}), (1, [(ONE, TWO)]))
        self.same(cheapest_bans(rule, road, {(ONE, TWO): 999, (TWO, ZERO): 998}), (998, [(TWO, ZERO)]))
        price, changes = cheapest_bans(rule, road, {(ONE, TWO): 3, (TWO, ZERO): 3})
        self.same(price, 3)
        self.assertIn(changes, [[(ONE, TWO)], [(TWO, ZERO)]])

    def test_several_dear_changes_or_a_cheap_one(self):
        rule, road = grow_and_shrink()
        prices = {change: 1 for change in road.changes}
        self.same(cheapest_bans(rule, road, prices), (3, [(ONE, ZERO), (TWO, ZERO), (TWO, ONE)]))
        prices = {change: 999 for change in road.changes}
        self.same(cheapest_bans(rule, road, prices), (2997, [(ONE, ZERO), (TWO, ZERO), (TWO, ONE)]))

    def test_a_dear_change_or_all_that_follow_it(self):
        shapes = [ZERO, ONE, TWO, (3,)]
        calls = {shape: [((), None)] * 2 for shape in shapes}
        calls[ZERO] = [((), 0), (((0, 0),), None)]
        rule = Rule(2, calls)
        road = Road([ZERO], [(ZERO, ONE), (ZERO, TWO), (ZERO, (3,))])
        for many in range(4):
            kept = road.without(road.changes[:many])
            self.same(cheapest_bans(rule, kept, {change: 2 for change in kept.changes}),
                      (2 * (3 - many), kept.changes))
        hub = Road([ZERO], [(ZERO, UP), (UP, ONE), (UP, TWO), (UP, (3,))])
        calls[UP] = [((), 0), ((), None)]
        rule = Rule(2, calls)
        dear = {(ZERO, UP): 30, (UP, ONE): 9, (UP, TWO): 10, (UP, (3,)): 10}
        self.same(cheapest_bans(rule, hub, dear), (29, [(UP, ONE), (UP, TWO), (UP, (3,))]))
        dear[(ZERO, UP)] = 28
        self.same(cheapest_bans(rule, hub, dear), (28, [(ZERO, UP)]))

    def test_prices_put_in_in_other_orders(self):
        for rand, rule, road, prices in draw_bans(255, 60):
            if course_by_hand(rule, road) is None:
                found = cheapest_bans(rule, road, prices)
                for _ in range(3):
                    self.same(cheapest_bans(rule, road, turned_about(rand, prices))[0], found[0])

    def test_nothing_is_missed(self):
        for shapes in ([ZERO], [ONE, TWO], [UP, DOWN, ZERO], [(5,), (0,), (3, 1)]):
            rule, road = reversed_bits(shapes), full_road(shapes)
            prices = {change: 1 for change in road.changes}
            self.same(cheapest_bans(rule, road, prices), (0, []))
            self.assertIs(is_ban(rule, road, []), True)

    def test_a_road_without_changes(self):
        rule = counting([ZERO, TWO])
        self.same(cheapest_bans(rule, Road([ZERO, TWO], []), {}), (0, []))
        self.assertIs(is_ban(rule, Road([TWO], []), []), True)
        self.assertIs(is_ban(rule.with_call(TWO, 3, ((), None)), Road([TWO], []), []), False)

    def test_a_hash_that_is_missed_at_the_greatest_place_alone(self):
        rule = counting([(5,), ZERO])
        broken = rule.with_call((5,), 31, ((), None))
        error = self.raises(Always, cheapest_bans, broken, Road([(5,)], []), {})
        self.same(error.course, [((5,), False)] * 32)
        self.assertIs(is_ban(broken, Road([ZERO], []), []), True)


class TestAlways(ExactCase):

    def test_the_first_of_the_shortest_runs(self):
        rule = Rule(2, {ONE: [(((0, 0),), None), ((), None)], UP: [(((0, 0), (1, 0)), None), ((), None)],
                        TWO: [((), 1), ((), None)]})
        for begin, course in [([ONE, UP, TWO], [(UP, True)]), ([ONE, TWO], [(ONE, False)]),
                              ([TWO], [(TWO, False), (TWO, False)]), ([TWO, UP], [(UP, True)])]:
            for road in (Road(begin, []), Road(begin, [(begin[0], (0, 2))]), full_road(begin)):
                known = rule if (0, 2) not in road.shapes else Rule(2, {**rule.calls, (0, 2): [((), None)] * 2})
                error = self.raises(Always, cheapest_bans, known, road, {change: 1 for change in road.changes})
                self.same(error.course, course)

    def test_the_first_run_may_be_that_of_a_greater_hash(self):
        rule = Rule(1, {ONE: [(((0, 0),), None)], TWO: [(((0, 1), (0, 2), (0, 3)), None)]})
        error = self.raises(Always, cheapest_bans, rule, Road([ONE, TWO], []), {})
        self.same(error.course, [(ONE, False)])
        self.same(first_missed(rule, Road([ONE, TWO], [])), (0, [(TWO, False)]))

    def test_a_shape_to_which_changes_alone_lead_is_none(self):
        rule = Rule(1, {ZERO: [(((0, 0),), None)], ONE: [((), None)]})
        self.same(cheapest_bans(rule, Road([ZERO], [(ZERO, ONE)]), {(ZERO, ONE): 8}), (0, []))
        goes_on = Rule(2, {ZERO: [((), 1), (((0, 0),), None)], ONE: [((), None), ((), None)]})
        self.same(cheapest_bans(goes_on, Road([ZERO], [(ZERO, ONE)]), {(ZERO, ONE): 8}), (8, [(ZERO, ONE)]))

    def test_a_shorter_run_with_a_change_does_not_matter(self):
        rule = Rule(3, {ZERO: [((), 1), ((), 2), ((), None)], ONE: [((), None)] * 3})
        error = self.raises(Always, cheapest_bans, rule, Road([ZERO], [(ZERO, ONE)]), {(ZERO, ONE): 1})
        self.same(error.course, [(ZERO, False)] * 3)

    def test_the_error_has_a_run(self):
        found = 0
        for rand, rule, road, prices in draw_bans(256, 600):
            try:
                cheapest_bans(rule, road, prices)
            except Always as error:
                found += 1
                self.assertIs(is_run(rule, road, error.course), True)
                self.assertIs(is_whole(rule, road, error.course), True)
                self.same(len(set(shape for shape, _ in error.course)), 1)
                self.assertTrue(any([not any(listed(rule, road, error.course, code)) for code in range(32)]))
                self.assertIs(is_ban(rule, road, road.changes), False)
        self.assertGreater(found, 10)


class TestBans(ExactCase):

    def check(self, rule, road, bans, thing):
        self.assertIs(is_ban(rule, road, thing), is_ban_by_hand(bans, thing), repr(thing)[:200])

    def test_the_returned_list_and_what_is_near_it(self):
        counts = 0
        for rand, rule, road, prices in draw_bans(257, 250, 6):
            if course_by_hand(rule, road) is not None:
                continue
            bans = all_bans(rule, road)
            changes = cheapest_bans(rule, road, prices)[1]
            for thing in near(changes):
                self.check(rule, road, bans, thing)
            for change in road.changes:
                self.check(rule, road, bans, changes + [change])
                self.check(rule, road, bans, [other for other in changes if other != change])
            counts += len(changes) > 1
        self.assertGreater(counts, 5)

    def test_other_orders_and_more_changes(self):
        rule, road = grow_and_shrink()
        shrinking = [(ONE, ZERO), (TWO, ZERO), (TWO, ONE)]
        for rows in itertools.permutations(shrinking):
            self.assertIs(is_ban(rule, road, list(rows)), True)
            self.assertIs(is_ban(rule, road, tuple(rows)), False)
            self.assertIs(is_ban(rule, road, [(ZERO, ONE)] + list(rows)), True)
            self.assertIs(is_ban(rule, road, list(rows)[1:]), False)
            self.assertIs(is_ban(rule, road, list(rows) + [rows[0]]), False)
        self.assertIs(is_ban(rule, road, road.changes), True)
        self.assertIs(is_ban(rule, road, []), False)

    def test_changes_that_are_none_of_the_road(self):
        rule, road = grow_and_shrink()
        smaller = road.without([(TWO, ZERO)])
        for change in [(TWO, ZERO), (ONE, ONE), (ONE, (3,)), (UP, ONE), (ONE,), ONE, (ONE, ZERO, TWO), None, 0, "",
                       [ONE, ZERO], ([1], [0]), ((True,), ZERO), (ONE, (False,)), ((1, 0), (0,)), {}, []]:
            self.assertIs(is_ban(rule, smaller, [(ONE, ZERO), (TWO, ONE)]), True)
            self.assertIs(is_ban(rule, smaller, [(ONE, ZERO), (TWO, ONE), change]), False)
            self.assertIs(is_ban(rule, smaller, [change, (TWO, ONE), (ONE, ZERO)]), False)

    def test_numbers_and_bools_exchanged(self):
        rule, road = counting([ZERO, ONE]), full_road([ZERO, ONE])
        self.assertIs(is_ban(rule, road, [((1,), (0,))]), True)
        for change in [((True,), (0,)), ((1,), (False,)), ((True,), (False,)), (True, False), (1, 0)]:
            self.assertIs(is_ban(rule, road, [change]), False)
            self.assertIs(is_ban(rule, road, [(ONE, ZERO), change]), False)

    def test_objects_of_all_kinds(self):
        rule, road = grow_and_shrink()
        sound = reversed_bits([ZERO, ONE])
        for thing in odd_things() + [rule, road, road.changes + [0], {(ONE, ZERO): 1}, [road.changes], None]:
            self.assertIs(is_ban(rule, road, thing), False)
            self.assertIs(is_ban(sound, full_road([ZERO, ONE]), thing), exact(thing) == "[]")


class TestErrors(ExactCase):

    def test_mismatch_comes_first(self):
        rule, road = counting([ZERO, ONE]), full_road([ZERO, ONE])
        always = Rule(1, {ONE: [((), None)]})
        for one, other in [(rule, full_road([ZERO, TWO])), (rule, Road([ZERO], [(UP, ZERO)])), (always, road),
                           (rule.with_shapes([ONE]), road)]:
            for prices in [{change: 1 for change in other.changes}, {}, None, True, [], {0: 0}]:
                self.raises(Mismatch, cheapest_bans, one, other, prices)
                self.raises(Mismatch, is_ban, one, other, prices)
            self.raises(Mismatch, is_ban, one, other, [])

    def test_invalid_prices(self):
        rule, road = counting([ZERO, ONE]), full_road([ZERO, ONE])
        up, down = (ZERO, ONE), (ONE, ZERO)
        wrong = [{}, {up: 1}, {down: 1}, {up: 1, down: 1, (ONE, TWO): 1}, {up: 1, (ONE, TWO): 1}, {up: 1, down: 1, 0: 1},
                 {up: 1, ONE: 1}, {up: 1, "": 1}, {up: 1, ((True,), (0,)): 1}, {up: 1, ((1,), (False,)): 1},
                 [(up, 1), (down, 1)], [[up, 1], [down, 1]], [up, down], ((up, 1), (down, 1)), (1, 1), [1, 1]]
        for price in [0, -1, 1000, 10 ** 39, True, False, None, "1", "", (1,), [1], {}, (), (5, 7)]:
            wrong += [{up: price, down: 1}, {up: 1, down: price}, {up: price, down: price}]
        for prices in wrong:
            self.raises(InvalidPrices, cheapest_bans, rule, road, prices)
        for thing in odd_things() + [rule, road]:
            self.raises(InvalidPrices, cheapest_bans, rule, road, thing)
        for thing in odd_things() + [rule, road]:
            if exact(thing) != "{}":
                self.raises(InvalidPrices, cheapest_bans, rule, Road([ONE], []), thing)

    def test_all_prices_from_1_to_999(self):
        rule, road = counting([ZERO, ONE]), full_road([ZERO, ONE])
        for price in (1, 2, 500, 998, 999):
            self.same(cheapest_bans(rule, road, {(ZERO, ONE): 1, (ONE, ZERO): price}), (price, [(ONE, ZERO)]))
            self.same(cheapest_bans(rule, road, {(ZERO, ONE): price, (ONE, ZERO): 1}), (1, [(ONE, ZERO)]))

    def test_invalid_prices_ahead_of_always(self):
        rule, road = Rule(1, {ONE: [((), None)], ZERO: [((), None)]}), full_road([ZERO, ONE])
        self.raises(Always, cheapest_bans, rule, road, {(ZERO, ONE): 1, (ONE, ZERO): 1})
        for prices in [{}, None, {(ZERO, ONE): 0, (ONE, ZERO): 1}, {(ZERO, ONE): 1, (ONE, ZERO): True}]:
            self.raises(InvalidPrices, cheapest_bans, rule, road, prices)

    def test_is_ban_does_not_ask_for_runs_of_one_shape(self):
        rule = Rule(1, {ONE: [((), None)], ZERO: [((), None)]})
        self.assertIs(is_ban(rule, full_road([ZERO, ONE]), [(ZERO, ONE)]), False)


class TestArguments(ExactCase):

    def test_what_is_passed_stays_as_it_was(self):
        for rand, rule, road, prices in draw_bans(258, 40):
            before = exact((rule.cursors, rule.calls, road.begin, road.changes, prices))
            if course_by_hand(rule, road) is None:
                self.untouched(lambda prices: cheapest_bans(rule, road, prices), prices)
            changes = road.changes[::-1]
            self.untouched(lambda thing: is_ban(rule, road, thing), changes)
            self.assertEqual(exact((rule.cursors, rule.calls, road.begin, road.changes, prices)), before)

    def test_the_returned_list_is_new(self):
        for rand, rule, road, prices in draw_bans(259, 20):
            if course_by_hand(rule, road) is None:
                found = cheapest_bans(rule, road, prices)
                text = exact(found)
                found[1].append("spoilt")
                self.assertEqual(exact(cheapest_bans(rule, road, prices)), text)

    def test_the_course_is_new(self):
        rule, road = Rule(1, {ONE: [((), None)]}), Road([ONE], [])
        first = self.raises(Always, cheapest_bans, rule, road, {}).course
        first.append("spoilt")
        self.same(self.raises(Always, cheapest_bans, rule, road, {}).course, [(ONE, False)])

    def test_by_name_in_another_order(self):
        rule, road = counting([ZERO, ONE]), full_road([ZERO, ONE])
        self.same(cheapest_bans(prices={(ONE, ZERO): 7, (ZERO, ONE): 5}, road=road, rule=rule), (7, [(ONE, ZERO)]))
        self.assertIs(is_ban(thing=[(ONE, ZERO)], road=road, rule=rule), True)
        self.raises(InvalidPrices, cheapest_bans, prices={}, road=road, rule=rule)


class TestLarge(ExactCase):

    def test_seven_changes_between_twelve_shapes(self):
        tables = [(5,), (4,), (3,), (2,), (1,), (0,)]
        shapes = tables + [(0, 1), (1, 2), (2, 3), (3, 4), (4, 5), (0, 5)]
        rule = Rule(32, {**reversed_bits(shapes).calls, **counting(tables).calls})
        changes = [((5,), (4,)), ((4,), (3,)), ((3,), (2,)), ((2,), (1,)), ((1,), (0,)), ((0,), (5,)), ((0, 5), (5,))]
        road = Road(shapes, changes)
        prices = {change: 10 + index for index, change in enumerate(changes)}
        self.same(cheapest_bans(rule, road, prices), (60, sorted(changes[:5])))
        self.assertIs(is_ban(rule, road, changes[:5]), True)
        self.assertIs(is_ban(rule, road, changes[:4]), False)

    def test_is_ban_on_a_full_road_of_twelve_shapes(self):
        shapes = [(5,), (4,), (3,), (2,), (1,), (0,), (0, 1), (1, 0), (0, 3), (3, 0), (5, 0), (0, 5)]
        road = full_road(shapes)
        self.assertIs(is_ban(reversed_bits(shapes), road, []), True)
        self.assertIs(is_ban(counting(shapes), road, []), False)
        rule = Rule(32, {**reversed_bits(shapes).calls, **{(5,): counting([(5,)]).calls[(5,)]}})
        self.assertIs(is_ban(rule, road, []), False)
        self.assertIs(is_ban(rule, road, road.changes), True)


if __name__ == "__main__":
    unittest.main()
