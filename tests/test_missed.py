"""Missed keys: the first of the shortest runs that miss a hash, closed sets and concerns."""

import itertools
import unittest

from loosecursors.errors import InvalidHash, Mismatch
from loosecursors.missed import closed_set, concerns, is_closed, missed_run
from loosecursors.roads import Road, full_road
from loosecursors.rules import Rule
from loosecursors.runs import is_run, is_whole, listed
from loosecursors.texts import parse_rule
from tests.helpers import (WRONG_HASHES, ExactCase, World, code_for, draw, draw_call, exact, is_one_of, near,
                           odd_things)

ZERO, ONE, TWO, UP, DOWN = (0,), (1,), (2,), (0, 1), (1, 0)


def small_rule():
    return parse_rule("cursors 2\nshape 0\ncall 0.0 end\ncall end\nshape 1\ncall 0.0 next 1\ncall 0.1 end")


def closed_by_hand(world, code, thing):
    """Whether a thing is a closed set, by the texts of its items."""
    if not isinstance(thing, list):
        return False
    texts = [exact(item) for item in thing]
    if len(set(texts)) < len(texts) or not set(texts) <= {exact(one) for one in world.situations}:
        return False
    if not {exact(one) for one in world.begin} <= set(texts):
        return False
    for one in world.situations:
        if exact(one) in texts and not world.lists(one, code):
            if world.ends(one) or not {exact(two) for two in world.behind[one]} <= set(texts):
                return False
    return True


class TestExamples(ExactCase):

    def test_the_example(self):
        self.example("""
>>> from loosecursors.missed import closed_set, concerns, missed_run
>>> from loosecursors.roads import Road, full_road
>>> from loosecursors.texts import parse_rule
>>> rule = parse_rule('cursors 2\\nshape 0\\ncall 0.0 end\\ncall end\\nshape 1\\ncall 0.0 next 1\\ncall 0.1 end')
>>> [missed_run(rule, full_road([(0,), (1,)]), 3), missed_run(rule, full_road([(0,), (1,)]), 2)]
[[((1,), False), ((0,), False)], None]
>>> [closed_set(rule, Road([(1,)], []), 1), concerns(rule, full_road([(0,), (1,)]), 2)]
[[((1,), False, 0), ((1,), False, 1)], [((0,), 0), ((1,), 0)]]
""")


class TestDrawn(ExactCase):

    def test_missed_runs(self):
        kinds = {None: 0, 1: 0, 2: 0, 3: 0}
        for rand, rule, road in draw(1, 1500):
            code = code_for(rand, road)
            wanted = World(rule, road).missed(code)
            self.same(missed_run(rule, road, code), wanted)
            kinds[wanted and min(len(wanted), 3)] += 1
        self.assertGreater(min(kinds.values()), 20, kinds)

    def test_a_missed_run_is_a_whole_run_that_lists_nothing(self):
        for rand, rule, road in draw(2, 300):
            for code in (0, 1, 2, 31):
                run = missed_run(rule, road, code)
                if run is not None:
                    self.assertIs(is_run(rule, road, run), True)
                    self.assertIs(is_whole(rule, road, run), True)
                    self.assertNotIn(True, listed(rule, road, run, code))

    def test_closed_sets(self):
        found = 0
        for rand, rule, road in draw(3, 800):
            code = code_for(rand, road)
            world = World(rule, road)
            rows = closed_set(rule, road, code)
            if world.missed(code) is not None:
                self.assertIsNone(rows)
                continue
            found += 1
            self.assertIs(closed_by_hand(world, code, rows), True)
            self.same(rows, sorted(rows))
            self.assertIs(is_closed(rule, road, code, rows), True)
            rand.shuffle(rows)
            self.assertIs(is_closed(rule, road, code, rows), True)
        self.assertGreater(found, 200)

    def test_concerns(self):
        for rand, rule, road in draw(4, 800):
            code = code_for(rand, road)
            self.same(concerns(rule, road, code), World(rule, road).concerns(code))

    def test_all_hashes(self):
        for rand, rule, road in draw(5, 40):
            world = World(rule, road)
            for code in range(32):
                self.same(missed_run(rule, road, code), world.missed(code))
                self.same(concerns(rule, road, code), world.concerns(code))
                self.assertIs(closed_set(rule, road, code) is None, world.missed(code) is not None)

    def test_all_lists_of_situations(self):
        counts = {True: 0, False: 0}
        for rand, rule, road in draw(6, 400):
            world = World(rule, road)
            if len(world.situations) > 6:
                continue
            code = code_for(rand, road)
            for size in range(len(world.situations) + 1):
                for rows in itertools.combinations(world.situations, size):
                    good = closed_by_hand(world, code, list(rows))
                    counts[good] += 1
                    self.assertIs(is_closed(rule, road, code, list(rows)), good)
                    if good:
                        self.assertIsNone(missed_run(rule, road, code))
        self.assertGreater(min(counts.values()), 100, counts)


class TestFirst(ExactCase):
    """The first in ascending order of the shortest runs."""

    def test_the_first_shape_to_begin_with(self):
        rule = Rule(1, {shape: [((), None)] for shape in (ZERO, ONE, TWO, UP)})
        self.same(missed_run(rule, Road([TWO, UP, ONE], []), 0), [(UP, False)])
        self.same(missed_run(rule, Road([TWO, ONE], [(ONE, ZERO)]), 0), [(ONE, False)])

    def test_a_shorter_run_comes_ahead_of_a_lesser_one(self):
        rule = Rule(2, {ZERO: [((), 1), ((), None)], ONE: [((), None), ((), None)]})
        self.same(missed_run(rule, full_road([ZERO, ONE]), 5), [(ONE, False)])
        self.same(missed_run(rule, Road([ZERO], [(ZERO, ONE)]), 5), [(ZERO, False), (ZERO, False)])

    def test_not_moved_comes_ahead_of_moved(self):
        rule = Rule(1, {DOWN: [((), None)]})
        self.same(missed_run(rule, Road([DOWN], []), 0), [(DOWN, False)])
        rule = Rule(1, {DOWN: [(((0, 0),), None)]})
        self.same(missed_run(rule, Road([DOWN], []), 2), [(DOWN, True)])
        self.same(missed_run(rule, Road([DOWN], []), 1), [(DOWN, False)])
        rule = Rule(1, {DOWN: [(((0, 0), (1, 0)), None)]})
        self.same(missed_run(rule, Road([DOWN], []), 2), None)

    def test_the_first_of_several_shortest_ones(self):
        # A run through (1,) is as short as one through (0, 1), which is less; each leads to other cursors.
        rule = Rule(4, {
            ZERO: [((), 1), ((), None), ((), 3), ((), None)],
            UP: [((), 2), ((), 3), ((), 3), ((), None)],
            ONE: [((), 3), ((), 3), ((), 3), ((), None)],
        })
        self.same(missed_run(rule, Road([UP, ONE], [(UP, ONE), (ONE, ZERO)]), 0), [(ONE, False), (ZERO, False)])
        self.same(missed_run(rule, Road([UP], [(UP, ONE), (ONE, UP)]), 0), [(UP, False)] * 3)
        self.same(missed_run(rule, Road([UP, ZERO], [(ZERO, UP)]), 1), [(ZERO, False), (ZERO, False)])

    def test_moved_changes_between_two_calls(self):
        # The key is missed in table 0 at the first call and in table 1 at the second one, or the other way round.
        first = Rule(2, {UP: [(((1, 1),), 1), (((0, 0),), None)]})
        self.same(missed_run(first, full_road([UP]), 1), [(UP, False), (UP, True)])
        other = Rule(2, {UP: [(((0, 0),), 1), (((1, 0), (1, 1)), None)]})
        self.same(missed_run(other, full_road([UP]), 1), [(UP, True), (UP, False)])
        self.same(closed_set(other.with_call(UP, 1, (((0, 0), (1, 0), (1, 1)), None)), full_road([UP]), 1),
                  [(UP, False, 0), (UP, False, 1), (UP, True, 0), (UP, True, 1)])

    def test_a_move_is_begun_and_ended_on_the_way(self):
        rule = Rule(3, {
            ONE: [(((0, 0),), 1), ((), None), (((0, 0), (0, 1)), None)],
            (1, 2): [((), 0), (((0, 1), (1, 1)), 2), (((0, 0), (0, 1)), None)],
            TWO: [((), 0), (((0, 0), (0, 1), (0, 2), (0, 3)), None), (((0, 1),), 2)],
        })
        road = Road([ONE], [(ONE, (1, 2)), ((1, 2), TWO)])
        self.same(missed_run(rule, road, 3), [(ONE, False), (ONE, False)])
        rule = rule.with_call(ONE, 1, (((0, 1),), None))
        self.same(missed_run(rule, road, 3), [(ONE, False), ((1, 2), True), ((1, 2), True)])
        self.same(missed_run(rule, road, 1), None)
        self.same(missed_run(rule, Road([ONE], [(ONE, (1, 2))]), 7),
                  [(ONE, False), ((1, 2), True), ((1, 2), True)])


class TestEdges(ExactCase):

    def test_the_first_call_lists_the_hash(self):
        rule = Rule(2, {ONE: [(((0, 1),), 1), ((), None)]})
        road = full_road([ONE])
        self.same([missed_run(rule, road, 3), concerns(rule, road, 3)], [None, [(ONE, 0)]])
        self.assertIs(is_closed(rule, road, 3, [(ONE, False, 0)]), True)
        self.assertIs(is_closed(rule, road, 3, [(ONE, False, 1), (ONE, False, 0)]), False)
        self.same([missed_run(rule, road, 2), closed_set(rule, road, 2)], [[(ONE, False)] * 2, None])
        self.same(concerns(rule, road, 2), [(ONE, 0), (ONE, 1)])

    def test_every_run_has_one_call(self):
        rule = Rule(1, {ZERO: [(((0, 0),), None)], ONE: [(((0, 1),), None)]})
        road = full_road([ZERO, ONE])
        self.same([missed_run(rule, road, 1), closed_set(rule, road, 1)], [None, [(ZERO, False, 0), (ONE, False, 0)]])
        self.same([missed_run(rule, road, 6), closed_set(rule, road, 6)], [[(ONE, False)], None])

    def test_no_run_is_whole(self):
        rule = Rule(2, {ZERO: [((), 1), ((), 0)]})
        road = full_road([ZERO])
        self.same([missed_run(rule, road, 0), concerns(rule, road, 0)], [None, [(ZERO, 0), (ZERO, 1)]])
        self.assertIs(is_closed(rule, road, 0, [(ZERO, False, 1), (ZERO, False, 0)]), True)
        for rows in ([], [(ZERO, False, 0)], [(ZERO, False, 1)]):
            self.assertIs(is_closed(rule, road, 0, rows), False)

    def test_shapes_and_cursors_that_are_not_met(self):
        rule = Rule(3, {shape: [((), 0), ((), None), (((0, 0),), None)] for shape in (ZERO, ONE, UP)})
        road = Road([ZERO], [(ONE, UP)])
        self.same(concerns(rule, road, 0), [(ZERO, 0)])
        self.assertIs(is_closed(rule, road, 0, [(ZERO, False, 0)]), True)
        self.assertIs(is_closed(rule, road, 0, [(UP, True, 2), (ZERO, False, 0), (ONE, False, 2)]), False)
        self.assertIs(is_closed(rule, road, 0, [(UP, False, 2), (ZERO, False, 0), (ONE, False, 2)]), True)
        self.assertIs(is_closed(rule, road, 0, [(UP, False, 2), (ZERO, False, 0), (ONE, False, 1)]), False)
        self.assertIs(is_closed(rule, road, 0, [((0, 2), False, 2), (ZERO, False, 0)]), False)

    def test_sixty_four_cursors(self):
        rule = Rule(64, {ONE: [(((0, 0),), cursor + 1) for cursor in range(63)] + [((), None)]})
        road = full_road([ONE])
        self.same([missed_run(rule, road, 5), closed_set(rule, road, 5)], [[(ONE, False)] * 64, None])
        self.same(concerns(rule, road, 5), [(ONE, cursor) for cursor in range(64)])
        self.same([missed_run(rule, road, 4), concerns(rule, road, 4)], [None, [(ONE, 0)]])
        rule = rule.with_call(ONE, 63, (((0, 1),), None))
        self.same([missed_run(rule, road, 5), len(closed_set(rule, road, 5))], [None, 64])
        rows = [(ONE, False, cursor) for cursor in range(64)]
        self.assertIs(is_closed(rule, road, 5, rows[::-1]), True)
        for index in range(64):
            self.assertIs(is_closed(rule, road, 5, rows[:index] + rows[index + 1:]), False)

    def test_twelve_shapes(self):
        shapes = [(width,) for width in range(6)] + [(width, width + 1) for width in range(5)] + [(5, 0)]
        rule = Rule(2, {shape: [((), 1), (tuple([(table, 0) for table in range(len(shape))]), None)]
                        for shape in shapes})
        road = full_road(shapes)
        self.same([missed_run(rule, road, 0), missed_run(rule, road, 1)], [None, [(ZERO, False), (UP, True)]])
        self.same(missed_run(rule, road, 16), [(ZERO, False), ((4, 5), True)])
        self.same(len(closed_set(rule, road, 0)), 36)
        self.same(concerns(rule, road, 0), [(shape, cursor) for shape in sorted(shapes) for cursor in range(2)])
        for code in (1, 2, 4, 8, 16, 31):
            self.same(missed_run(rule, road, code), World(rule, road).missed(code))


class TestNear(ExactCase):

    def test_what_is_near_a_closed_set(self):
        counts = {True: 0, False: 0}
        for rand, rule, road in draw(7, 90):
            code = code_for(rand, road)
            rows = closed_set(rule, road, code)
            world = World(rule, road)
            if rows is None or len(rows) > 7:
                continue
            others = [rows + [one] for one in world.situations] + [world.situations, world.situations[::-1]]
            others += [rows + [(shape, int(moved), cursor)] for shape, moved, cursor in world.situations]
            for thing in itertools.chain(near(rows), others):
                good = closed_by_hand(world, code, thing)
                counts[good] += 1
                self.assertIs(self.untouched(is_closed, rule, road, code, thing), good)
        self.assertGreater(min(counts.values()), 100, counts)

    def test_any_object_gets_a_bool_itself(self):
        rule, road = small_rule(), full_road([ZERO, ONE])
        world = World(rule, road)
        results = [rule, road, missed_run(rule, road, 3), concerns(rule, road, 2), [rule], [(rule, False, 0)],
                   [(ZERO, road, 0)], [(ZERO, False, rule)], {(ZERO, False, 0): 1, (ONE, False, 0): 1}]
        for thing in odd_things() + results:
            for code in (2, 3):
                self.assertIs(self.untouched(is_closed, rule, road, code, thing), False)
        good = [(ONE, False, 0), (ZERO, False, 0)]
        self.assertIs(is_closed(rule, road, 2, good), True)
        for thing in odd_things():
            for rows in (good + [thing], [thing] + good, good[:1] + [thing], [good, thing],
                         [(ZERO, False, thing)] + good, [(thing, False, 0)] + good, [(ZERO, thing, 0)] + good):
                self.assertIs(is_closed(rule, road, 2, rows), closed_by_hand(world, 2, rows))

    def test_numbers_bools_and_none_exchanged(self):
        rule, road = small_rule(), full_road([ZERO, ONE])
        good = [(ZERO, False, 0), (ONE, False, 0)]
        self.assertIs(is_closed(rule, road, 2, good), True)
        for wrong in ((ZERO, 0, 0), (ZERO, None, 0), (ZERO, True, 0), (ZERO, False, False), (ZERO, False, None),
                      (ZERO, False, -2), (ZERO, False, 2), ((False,), False, 0), ([0], False, 0), [ZERO, False, 0],
                      (ZERO, False), (ZERO, 0), (ZERO, False, 0, 0), ((2,), False, 0)):
            self.assertIs(is_closed(rule, road, 2, [wrong, good[1]]), False)
            self.assertIs(is_closed(rule, road, 2, good + [wrong]), False)
        self.assertIs(is_closed(rule, road, 2, tuple(good)), False)
        self.assertIs(is_closed(rule, road, 2, good + good[:1]), False)
        self.assertIs(is_closed(rule, road, 2, []), False)
        self.assertIs(is_closed(rule, road, 2, good + [(ZERO, False, 1)]), False)
        self.assertIs(is_closed(rule, road, 3, good + [(ONE, False, 1)]), False)
        self.assertIs(is_closed(rule.with_call(ZERO, 1, ((), 0)), road, 2, good + [(ZERO, False, 1)]), True)

    def test_a_bool_in_a_width_of_one(self):
        rule, road = Rule(2, {ONE: [((), 1), ((), 0)]}), full_road([ONE])
        self.assertIs(is_closed(rule, road, 0, [(ONE, False, 0), (ONE, False, 1)]), True)
        self.assertIs(is_closed(rule, road, 0, [((True,), False, 0), (ONE, False, 1)]), False)
        self.assertIs(is_closed(rule, road, 0, [(ONE, False, 0), (ONE, False, True)]), False)


class TestErrors(ExactCase):

    def test_mismatch_comes_first(self):
        rule = small_rule()
        for road in (full_road([ZERO, TWO]), Road([ZERO], [(ZERO, DOWN)]), Road([UP], []), Road([ZERO], [(TWO, ZERO)])):
            for code in [0, 31] + WRONG_HASHES:
                for function in (missed_run, closed_set, concerns):
                    self.raises(Mismatch, function, rule, road, code)
                for thing in (None, [], [(ZERO, False, 0)], 5):
                    self.raises(Mismatch, is_closed, rule, road, code, thing)

    def test_invalid_hashes(self):
        rule, road = small_rule(), full_road([ZERO, ONE])
        for code in WRONG_HASHES + odd_things():
            if not is_one_of(code, range(32)):
                for function in (missed_run, closed_set, concerns):
                    self.raises(InvalidHash, function, rule, road, code)
                for thing in (None, [], [(ZERO, False, 0), (ONE, False, 0)], 5):
                    self.raises(InvalidHash, is_closed, rule, road, code, thing)

    def test_no_mismatch_with_shapes_of_the_rule_alone(self):
        self.same(missed_run(small_rule(), Road([ZERO], []), 0), None)
        self.same(concerns(small_rule(), Road([ZERO], []), 0), [(ZERO, 0)])


class TestArguments(ExactCase):

    def test_returned_lists_are_new(self):
        rule, road = small_rule(), full_road([ZERO, ONE])
        self.fresh(missed_run, rule, road, 3)
        self.fresh(closed_set, rule, road, 2)
        self.fresh(concerns, rule, road, 3)

    def test_the_rule_and_the_road_are_as_before(self):
        for rand, rule, road in draw(8, 30):
            before = exact([rule.cursors, rule.calls, road.begin, road.changes])
            for function in (missed_run, closed_set, concerns):
                self.same(function(rule, road, 1), function(rule, road, 1))
            is_closed(rule, road, 1, World(rule, road).situations)
            self.assertEqual(exact([rule.cursors, rule.calls, road.begin, road.changes]), before)

    def test_the_order_in_which_shapes_were_put_in_means_nothing(self):
        for rand, rule, road in draw(9, 60):
            calls = rule.calls
            other = Rule(rule.cursors, {shape: calls[shape] for shape in reversed(calls)})
            turned = Road(road.begin[::-1], road.changes[::-1])
            for function in (missed_run, closed_set, concerns):
                self.same(function(other, turned, 3), function(rule, road, 3))

    def test_by_name_in_another_order(self):
        rule, road = small_rule(), full_road([ZERO, ONE])
        self.same(missed_run(code=3, road=road, rule=rule), [(ONE, False), (ZERO, False)])
        self.same(closed_set(road=road, code=3, rule=rule), None)
        self.assertIs(is_closed(thing=[(ZERO, False, 0), (ONE, False, 0)], code=2, rule=rule, road=road), True)
        self.same(concerns(code=2, rule=rule, road=road), [(ZERO, 0), (ONE, 0)])


class TestFacts(ExactCase):

    def test_a_missed_run_or_a_closed_set(self):
        for rand, rule, road in draw(10, 300):
            for code in (0, 1, 3, 30):
                run, rows = missed_run(rule, road, code), closed_set(rule, road, code)
                self.assertIs(run is None, rows is not None)
                if run is not None:
                    self.assertIs(is_closed(rule, road, code, World(rule, road).situations), False)

    def test_a_closed_set_stays_one_if_changes_are_forbidden(self):
        shown = 0
        for rand, rule, road in draw(11, 500):
            code = code_for(rand, road)
            rows = closed_set(rule, road, code)
            if rows is None:
                continue
            less = road.without([change for change in road.changes if rand.random() < 0.5])
            shapes = less.shapes
            shown += len(shapes) < len(road.shapes)
            self.assertIs(is_closed(rule, less, code, [row for row in rows if row[0] in shapes]), True)
            self.same(missed_run(rule, less, code), None)
        self.assertGreater(shown, 10)

    def test_another_call_at_a_state_of_no_concern(self):
        shown = 0
        for rand, rule, road in draw(12, 500):
            code = code_for(rand, road)
            wanted = [missed_run(rule, road, code), concerns(rule, road, code)]
            for shape in rule.shapes:
                for cursor in range(rule.cursors):
                    if (shape, cursor) not in wanted[1]:
                        shown += 1
                        other = rule.with_call(shape, cursor, draw_call(rand, rule.cursors, shape, 0.4, 0.5))
                        self.same([missed_run(other, road, code), concerns(other, road, code)], wanted)
        self.assertGreater(shown, 500)

    def test_a_change_from_a_shape_of_no_concern(self):
        shown = {"allowed": 0, "forbidden": 0}
        for rand, rule, road in draw(13, 600):
            code = code_for(rand, road)
            wanted = [missed_run(rule, road, code), concerns(rule, road, code)]
            known = {shape for shape, _ in wanted[1]}
            for change in itertools.permutations(rule.shapes, 2):
                if change[0] in known:
                    continue
                has = change in road.changes
                shown["forbidden" if has else "allowed"] += 1
                other = road.without([change]) if has else road.with_change(change)
                self.same([missed_run(rule, other, code), concerns(rule, other, code)], wanted)
        self.assertGreater(min(shown.values()), 50, shown)

    def test_another_call_at_a_concern_may_matter(self):
        rule = Rule(2, {ZERO: [((), 1), ((), 0)]})
        for call, wanted in (((((0, 0),), None), None), (((), None), [(ZERO, False)] * 2), (((), 1), None)):
            self.same(missed_run(rule.with_call(ZERO, 1, call), full_road([ZERO]), 9), wanted)


if __name__ == "__main__":
    unittest.main()
