"""Least numbers: the fewest calls of whole runs, the fewest that list a hash, and the papers for the former."""

import itertools
import unittest

from loosecursors.errors import InvalidHash, InvalidNumber, Mismatch
from loosecursors.least import depths, fewest_calls, fewest_times, is_depths
from loosecursors.roads import Road, full_road
from loosecursors.rules import Rule
from loosecursors.runs import is_run, is_whole, listed
from loosecursors.texts import parse_rule
from tests.helpers import (WRONG_HASHES, WRONG_NUMBERS, ExactCase, World, code_for, draw, exact, is_one_of, near,
                           odd_things, spoil_all, turned_about)

ZERO, ONE, TWO, UP, DOWN = (0,), (1,), (2,), (0, 1), (1, 0)


def small_rule():
    return parse_rule("cursors 3\nshape 0\ncall 0.0 next 1\ncall 0.0 next 2\ncall end\n"
                      "shape 0>1\ncall 0.0 1.1 next 2\ncall 0.0 next 2\ncall 0.0 1.0 end")


def endless_rule():
    return parse_rule("cursors 2\nshape 0\ncall 0.0 next 1\ncall next 0")


def depths_by_hand(world, number, thing):
    """Whether a thing is a paper that no whole run has fewer calls than a number, by the texts of its keys."""
    if not isinstance(thing, dict) or not {exact(key) for key in thing} <= {exact(state) for state in world.states}:
        return False
    if not all([isinstance(depth, int) and exact(depth).strip("-").isdigit() for depth in thing.values()]):
        return False
    if not all([thing.get((shape, 0), number - 1) >= number for shape in world.road.begin]):
        return False
    for (shape, moved, cursor), following in world.behind.items():
        if (shape, cursor) in thing:
            most = min([thing.get((one[0], one[2]), float("-inf")) for one in following], default=0) + 1
            if thing[(shape, cursor)] > most:
                return False
    return True


class TestExamples(ExactCase):

    def test_the_example(self):
        self.example("""
>>> from loosecursors.least import depths, fewest_calls, fewest_times, is_depths
>>> from loosecursors.roads import full_road
>>> from loosecursors.texts import parse_rule
>>> rule = parse_rule('cursors 2\\nshape 0\\ncall 0.0 end\\ncall end\\nshape 1\\ncall 0.0 next 1\\ncall 0.1 end')
>>> road = full_road([(0,), (1,)])
>>> [fewest_calls(rule, road), fewest_times(rule, road, 1)[0], depths(rule, road, 2)]
[(1, [((0,), False)]), 0, None]
>>> is_depths(rule, road, 1, {((0,), 0): 1, ((0,), 1): 1, ((1,), 0): 2, ((1,), 1): 1})
True
""")


class TestDrawn(ExactCase):

    def check(self, rule, road, found, number):
        """What is found is the number and a whole run, or None."""
        if number is None:
            self.assertIsNone(found)
            return []
        self.assertIsInstance(found, tuple)
        self.same([len(found), found[0]], [2, number])
        self.assertIs(is_run(rule, road, found[1]), True)
        self.assertIs(is_whole(rule, road, found[1]), True)
        return found[1]

    def test_fewest_calls(self):
        kinds = {None: 0, 1: 0, 2: 0, 3: 0}
        for rand, rule, road in draw(61, 1000):
            number = World(rule, road).fewest(None)
            run = self.check(rule, road, fewest_calls(rule, road), number)
            self.same(len(run), number or 0)
            kinds[number and min(number, 3)] += 1
        self.assertGreater(min(kinds.values()), 20, kinds)

    def test_fewest_times(self):
        kinds = {None: 0, 0: 0, 1: 0, 2: 0}
        for rand, rule, road in draw(62, 1000):
            code = code_for(rand, road)
            number = World(rule, road).fewest(code)
            run = self.check(rule, road, fewest_times(rule, road, code), number)
            self.same(run and listed(rule, road, run, code).count(True), [] if number is None else number)
            kinds[number and min(number, 2)] += 1
        self.assertGreater(min(kinds.values()), 20, kinds)

    def test_depths(self):
        for rand, rule, road in draw(63, 700):
            world = World(rule, road)
            least = world.fewest(None)
            for number in (0, 1, 2, 64, 10 ** 39) if least is None else (0, least - 1, least, least + 1, 10 ** 39):
                paper = depths(rule, road, number)
                self.assertIs(paper is None, least is not None and number > least)
                if paper is not None:
                    self.assertIs(depths_by_hand(world, number, paper), True)
                    self.same(list(paper), sorted(paper))
                    self.assertIs(is_depths(rule, road, number, paper), True)
                    self.assertIs(is_depths(rule, road, number, turned_about(rand, paper)), True)
                    self.assertIs(is_depths(rule, road, max(number - 1, 0), paper), True)
                    if least is not None:
                        self.assertIs(is_depths(rule, road, least + 1, paper), False)

    def test_all_small_papers(self):
        counts = {True: 0, False: 0}
        for rand, rule, road in draw(64, 120):
            world = World(rule, road)
            if len(world.states) > 3:
                continue
            for numbers in itertools.product([None, -1, 0, 1, 2, 3], repeat=len(world.states)):
                paper = {state: depth for state, depth in zip(world.states, numbers) if depth is not None}
                for number in range(4):
                    good = depths_by_hand(world, number, paper)
                    counts[good] += 1
                    self.assertIs(is_depths(rule, road, number, paper), good)
        self.assertGreater(min(counts.values()), 100, counts)


class TestEdges(ExactCase):

    def test_every_run_has_one_call(self):
        rule, road = Rule(1, {ONE: [(((0, 1),), None)]}), full_road([ONE])
        self.same([fewest_calls(rule, road), fewest_times(rule, road, 1)], [(1, [(ONE, False)])] * 2)
        self.same([fewest_times(rule, road, 2), depths(rule, road, 2)], [(0, [(ONE, False)]), None])
        self.same(depths(rule, road, 1), {(ONE, 0): 1})
        self.assertIs(is_depths(rule, road, 0, depths(rule, road, 0)), True)
        for depth, good in ((1, True), (0, True), (2, False), (-1, False), (True, False), (False, False)):
            self.assertIs(is_depths(rule, road, 0, {(ONE, 0): depth}), good)

    def test_no_run_is_whole(self):
        rule, road = endless_rule(), full_road([ZERO])
        self.same([fewest_calls(rule, road), fewest_times(rule, road, 5)], [None, None])
        for number in (0, 1, 2, 64, 10 ** 39):
            paper = depths(rule, road, number)
            self.assertIs(depths_by_hand(World(rule, road), number, paper), True)
            self.assertIs(is_depths(rule, road, number, paper), True)
        self.assertIs(is_depths(rule, road, 9, {(ZERO, 0): 9, (ZERO, 1): 8}), True)
        self.assertIs(is_depths(rule, road, 9, {(ZERO, 0): 9, (ZERO, 1): 7}), False)
        self.assertIs(is_depths(rule, road, 9, {(ZERO, 0): 8, (ZERO, 1): 9}), False)
        self.assertIs(is_depths(rule, road, 9, {(ZERO, 0): 9}), False)

    def test_an_end_that_some_states_cannot_meet(self):
        # From the one shape to begin with there is no end, from the other there is one in three calls.
        rule = Rule(4, {ZERO: [((), 1), ((), 2), ((), None), ((), 3)], ONE: [((), 3)] * 4})
        road = Road([ZERO, ONE], [])
        self.same(fewest_calls(rule, road), (3, [(ZERO, False)] * 3))
        for number in (0, 1, 2, 3):
            paper = depths(rule, road, number)
            self.assertIs(depths_by_hand(World(rule, road), number, paper), True)
            self.assertIs(is_depths(rule, road, number, paper), True)
        self.same(depths(rule, road, 4), None)
        self.same(fewest_calls(rule, Road([ZERO], [(ZERO, ONE)]))[0], 3)
        self.assertIs(depths_by_hand(World(rule, Road([ZERO], [(ZERO, ONE)])), 3,
                                     depths(rule, Road([ZERO], [(ZERO, ONE)]), 3)), True)
        self.same(fewest_calls(rule, Road([ONE], [(ONE, ZERO)])), None)
        self.assertIs(depths_by_hand(World(rule, Road([ONE], [])), 10 ** 39,
                                     depths(rule, Road([ONE], []), 10 ** 39)), True)

    def test_fewer_calls_or_fewer_listings(self):
        rule = Rule(4, {ZERO: [(((0, 0),), None), ((), 2), ((), 3), ((), None)],
                        ONE: [(((0, 1),), 1), ((), 2), ((), 3), ((), None)]})
        road = full_road([ZERO, ONE])
        self.same(fewest_calls(rule, road), (1, [(ZERO, False)]))
        self.same(fewest_times(rule, road, 1)[0], 1)
        number, run = fewest_times(rule, road, 2)
        self.same([number, listed(rule, road, run, 2).count(True), len(run)], [0, 0, 4])

    def test_moved_changes_between_two_calls(self):
        rule = Rule(2, {UP: [(((0, 0),), 1), (((1, 0), (1, 1)), None)]})
        road = full_road([UP])
        self.same(fewest_times(rule, road, 1), (0, [(UP, True), (UP, False)]))
        rule = rule.with_call(UP, 1, (((0, 0), (1, 0)), None))
        self.same(fewest_times(rule, road, 1), (0, [(UP, True), (UP, True)]))
        number, run = fewest_times(rule, road, 2)
        self.same([number, run[0], listed(rule, road, run, 2).count(True)], [1, (UP, True), 1])

    def test_shapes_and_cursors_that_are_not_met(self):
        rule = Rule(3, {shape: [((), 1), ((), None), ((), 0)] for shape in (ZERO, ONE, TWO)})
        road = Road([ZERO], [(ONE, ZERO)])
        paper = depths(rule, road, 2)
        for more, good in (({(ONE, 1): 1}, True), ({(ONE, 1): -10 ** 39}, True), ({(ZERO, 2): 3}, True),
                           ({(ZERO, 2): 4}, False), ({(ONE, 1): 2}, False), ({(ONE, 0): 2}, False),
                           ({(ONE, 1): 1, (ONE, 0): 2}, True), ({(TWO, 1): 1}, False), ({(ZERO, 3): 1}, False)):
            self.assertIs(is_depths(rule, road, 2, {**paper, **more}), good)

    def test_sixty_four_cursors(self):
        rule = Rule(64, {shape: [((shape_places(shape)), cursor + 1) for cursor in range(63)] + [((), None)]
                         for shape in (ONE, UP)})
        road = full_road([ONE, UP])
        self.same([fewest_calls(rule, road)[0], len(fewest_calls(rule, road)[1])], [64, 64])
        self.same([fewest_times(rule, road, 6)[0], fewest_times(rule, full_road([ONE]), 6)[0]], [0, 63])
        self.same(depths(rule, road, 65), None)
        self.assertIs(depths_by_hand(World(rule, road), 64, depths(rule, road, 64)), True)

    def test_twelve_shapes(self):
        shapes = [(width,) for width in range(6)] + [(width, width + 1) for width in range(5)] + [(5, 0)]
        rule = Rule(12, {shape: [((), cursor + 1 if cursor < 11 - index % 4 else None) for cursor in range(12)]
                         for index, shape in enumerate(shapes)})
        road = full_road(shapes)
        number = World(rule, road).fewest(None)
        self.same([fewest_calls(rule, road)[0], len(fewest_calls(rule, road)[1])], [number, number])
        self.assertIs(depths_by_hand(World(rule, road), number, depths(rule, road, number)), True)
        chain = Road(shapes[:1], list(zip(shapes, shapes[1:])))
        self.same(fewest_calls(rule, chain)[0], World(rule, chain).fewest(None))


def shape_places(shape):
    return ((0, 0), (0, 1)) if len(shape) == 1 else ((0, 0),)


class TestNear(ExactCase):

    def test_what_is_near_a_paper(self):
        counts = {True: 0, False: 0}
        for rand, rule, road in draw(65, 160):
            world = World(rule, road)
            number = world.fewest(None)
            if len(world.states) > 8:
                continue
            number = 7 if number is None else number
            for thing in near(depths(rule, road, number)):
                good = depths_by_hand(world, number, thing)
                counts[good] += 1
                self.assertIs(self.untouched(is_depths, rule, road, number, thing), good)
        self.assertGreater(min(counts.values()), 50, counts)

    def test_any_object_gets_a_bool_itself(self):
        rule, road = small_rule(), full_road([ZERO, UP])
        world = World(rule, road)
        number = world.fewest(None)
        paper = depths(rule, road, number)
        for thing in odd_things() + [rule, road, fewest_calls(rule, road), {(ZERO, 0): rule}, {(ZERO, 0): 2, "": rule}]:
            self.assertIs(self.untouched(is_depths, rule, road, 1, thing), False)
            for key in paper:
                wrong = {**paper, key: thing}
                self.assertIs(is_depths(rule, road, number, wrong), depths_by_hand(world, number, wrong))

    def test_states_that_are_none(self):
        rule, road = Rule(2, {ONE: [((), 1), ((), None)], TWO: [((), 1), ((), None)]}), full_road([ONE])
        self.assertIs(is_depths(rule, road, 2, {(ONE, 0): 2, (ONE, 1): 1}), True)
        self.assertIs(is_depths(rule, road, 0, {(ONE, 0): 0, (ONE, 1): -1}), True)
        for wrong in ({((True,), 0): 2, (ONE, 1): 1}, {(ONE, False): 2, (ONE, 1): 1}, {(ONE, 0): 2, (ONE, True): 1},
                      {(ONE, 0): 2, (ONE, 1): True}, {(ONE, 0): 2, (ONE, 1): None}, {(ONE, 0): 2}, {(ONE, 1): 1}, {},
                      {(ONE, 0): 3, (ONE, 1): 2}, {(ONE, 0): 3, (ONE, 1): 1}, {(ONE, 0): 1, (ONE, 1): 1},
                      {(ONE, 0): 2, (ONE, 1): 0}, {(ONE, 0): 2, (ONE, 1): 2}, {(ONE, 0): "2", (ONE, 1): "1"},
                      {(ONE, 0): 2, (ONE, 1): 1, (ONE, 2): 1}, {(ONE, 0): 2, (ONE, 1): 1, (TWO, 1): 1},
                      {(ONE, 0): 2, (ONE, 1): 1, (ONE, -1): 1}, {(ONE, 0): 2, (ONE, 1): 1, ONE: 1},
                      {(ONE, False, 0): 2, (ONE, False, 1): 1}, {(ONE, 0): 2, (ONE, 1): 1, 0: 1},
                      [((ONE, 0), 2), ((ONE, 1), 1)], [(ONE, 0), (ONE, 1)], ((ONE, 0), (ONE, 1))):
            self.assertIs(is_depths(rule, road, 2, wrong), False)


class TestErrors(ExactCase):

    def test_mismatch_comes_first(self):
        rule = small_rule()
        for road in (full_road([ZERO, TWO]), Road([ZERO], [(ZERO, DOWN)]), Road([ONE], []),
                     Road([ZERO], [(TWO, ZERO)])):
            self.raises(Mismatch, fewest_calls, rule, road)
            for code in [0, 31] + WRONG_HASHES:
                self.raises(Mismatch, fewest_times, rule, road, code)
            for number in [0, 5] + WRONG_NUMBERS:
                self.raises(Mismatch, depths, rule, road, number)
                for thing in (None, {}, {(ZERO, 0): 1}):
                    self.raises(Mismatch, is_depths, rule, road, number, thing)

    def test_invalid_hashes(self):
        rule, road = small_rule(), full_road([ZERO, UP])
        for code in WRONG_HASHES + odd_things():
            if not is_one_of(code, range(32)):
                self.raises(InvalidHash, fewest_times, rule, road, code)

    def test_invalid_numbers(self):
        rule, road = small_rule(), full_road([ZERO, UP])
        for number in WRONG_NUMBERS + odd_things():
            if not isinstance(number, int) or isinstance(number, bool) or number < 0:
                self.raises(InvalidNumber, depths, rule, road, number)
                for thing in (None, {}, {(ZERO, 0): 1}, depths(rule, road, 2)):
                    self.raises(InvalidNumber, is_depths, rule, road, number, thing)
            else:
                self.assertIs(depths(rule, road, number) is None, number > 2)


class TestArguments(ExactCase):

    def test_returned_lists_and_dicts_are_new(self):
        rule, road = small_rule(), full_road([ZERO, UP])
        self.fresh(depths, rule, road, 2)
        self.fresh(depths, endless_rule(), full_road([ZERO]), 9)
        for function, more in ((fewest_calls, ()), (fewest_times, (3,))):
            first = function(rule, road, *more)
            before = exact(first)
            spoil_all(first[1])
            self.assertEqual(exact(function(rule, road, *more)), before)

    def test_the_rule_and_the_road_are_as_before(self):
        for rand, rule, road in draw(66, 30):
            before = exact([rule.cursors, rule.calls, road.begin, road.changes])
            self.same(fewest_calls(rule, road), fewest_calls(rule, road))
            self.same(fewest_times(rule, road, 1), fewest_times(rule, road, 1))
            self.same(depths(rule, road, 1), depths(rule, road, 1))
            is_depths(rule, road, 7, {})
            self.assertEqual(exact([rule.cursors, rule.calls, road.begin, road.changes]), before)

    def test_by_name_in_another_order(self):
        rule, road = small_rule(), full_road([ZERO])
        self.same(fewest_calls(road=road, rule=rule), (3, [(ZERO, False)] * 3))
        self.same(fewest_times(code=3, road=road, rule=rule), (2, [(ZERO, False)] * 3))
        self.same(depths(number=4, road=road, rule=rule), None)
        paper = depths(number=3, rule=rule, road=road)
        self.assertIs(is_depths(thing=paper, number=3, road=road, rule=rule), True)


class TestFacts(ExactCase):

    def test_no_least_number_falls_if_changes_are_forbidden(self):
        shown = [0, 0]
        for rand, rule, road in draw(67, 1500):
            code = code_for(rand, road)
            less = road.without([change for change in road.changes if rand.random() < 0.5])
            for index, (before, after) in enumerate([(fewest_calls(rule, road), fewest_calls(rule, less)),
                                                     (fewest_times(rule, road, code), fewest_times(rule, less, code))]):
                if before is None:
                    self.assertIsNone(after)
                elif after is not None:
                    self.assertGreaterEqual(after[0], before[0])
                shown[index] += exact(before and before[0]) != exact(after and after[0])
        self.assertGreater(min(shown), 5)


if __name__ == "__main__":
    unittest.main()
