"""Ends: longest runs, the papers for them, and loops."""

import itertools
import unittest

from loosecursors.ends import heights, is_heights, is_loop, longest, loop
from loosecursors.errors import InvalidNumber, Mismatch
from loosecursors.roads import Road, full_road
from loosecursors.rules import Rule
from loosecursors.runs import is_run
from loosecursors.texts import parse_rule
from tests.helpers import (WRONG_NUMBERS, ExactCase, World, draw, exact, is_one_of, near, odd_things, spoil_all,
                           turned_about)

ZERO, ONE, TWO, UP, DOWN = (0,), (1,), (2,), (0, 1), (1, 0)


def small_rule():
    """Every run has one call, two, or three."""
    return parse_rule("cursors 3\nshape 0\ncall 0.0 next 1\ncall next 2\ncall end\n"
                      "shape 0>1\ncall end\ncall 0.0 next 2\ncall end")


def endless_rule():
    return parse_rule("cursors 2\nshape 0\ncall next 1\ncall next 0\nshape 1\ncall end\ncall end")


def heights_by_hand(world, number, thing):
    """Whether a thing is a paper that no run has more calls than a number, by the texts of its keys."""
    if not isinstance(thing, dict) or not {exact(key) for key in thing} <= {exact(state) for state in world.states}:
        return False
    if not all([is_one_of(height, [height]) and isinstance(height, int) and exact(height).isdigit() and height > 0
                for height in thing.values()]):
        return False
    if not all([thing.get((shape, 0), number + 1) <= number for shape in world.road.begin]):
        return False
    for (shape, moved, cursor), following in world.behind.items():
        if (shape, cursor) in thing:
            if not all([thing.get((one[0], one[2]), thing[(shape, cursor)]) < thing[(shape, cursor)]
                        for one in following]):
                return False
    return True


def loop_by_hand(world, thing):
    """Whether a thing is a loop: with any further step to its situation it is a run too."""
    if not isinstance(thing, tuple) or len(thing) != 2 or not isinstance(thing[0], list):
        return False
    run, index = thing
    if not is_one_of(index, range(len(run))) or world.followed(run) is None:
        return False
    longer = world.followed(run + [run[index]])
    return longer is not None and longer[-1] == longer[index]


class TestExamples(ExactCase):

    def test_the_example(self):
        self.example("""
>>> from loosecursors.ends import heights, is_loop, longest, loop
>>> from loosecursors.roads import full_road
>>> from loosecursors.rules import Rule
>>> rule = Rule(2, {(0,): [(((0, 0),), 1), (((0, 0),), None)]})
>>> road = full_road([(0,)])
>>> [longest(rule, road), heights(rule, road, 2), heights(rule, road, 1), loop(rule, road)]
[(2, [((0,), False), ((0,), False)]), {((0,), 0): 2, ((0,), 1): 1}, None, None]
>>> is_loop(rule.with_call((0,), 1, ((), 1)), road, ([((0,), False), ((0,), False)], 1))
True
""")


class TestDrawn(ExactCase):

    def test_longest_runs(self):
        kinds = {None: 0, 1: 0, 2: 0, 3: 0}
        for rand, rule, road in draw(21, 1000):
            number = World(rule, road).most(None)
            found = longest(rule, road)
            kinds[number and min(number, 3)] += 1
            if number is None:
                self.assertIsNone(found)
                continue
            self.assertIsInstance(found, tuple)
            self.same([len(found), found[0], len(found[1])], [2, number, number])
            self.assertIs(is_run(rule, road, found[1]), True)
            self.assertIsNotNone(World(rule, road).followed(found[1]))
        self.assertGreater(min(kinds.values()), 20, kinds)

    def test_heights(self):
        for rand, rule, road in draw(22, 700):
            world = World(rule, road)
            most = world.most(None)
            for number in (0, 1, 2, 64, 10 ** 39) if most is None else (0, most - 1, most, most + 1, 10 ** 39):
                paper = heights(rule, road, number)
                self.assertIs(paper is None, most is None or number < most)
                if paper is not None:
                    self.assertIs(heights_by_hand(world, number, paper), True)
                    self.same(list(paper), sorted(paper))
                    self.assertIs(is_heights(rule, road, number, paper), True)
                    self.assertIs(is_heights(rule, road, number, turned_about(rand, paper)), True)
                    self.assertIs(is_heights(rule, road, number + 1, paper), True)
                    self.assertIs(is_heights(rule, road, most - 1, paper), False)

    def test_loops(self):
        for rand, rule, road in draw(23, 700):
            world = World(rule, road)
            found = loop(rule, road)
            self.assertIs(found is None, world.most(None) is not None)
            if found is not None:
                self.assertIs(loop_by_hand(world, found), True)
                self.assertIs(is_loop(rule, road, found), True)

    def test_all_small_runs_with_all_indexes(self):
        counts = {True: 0, False: 0}
        for rand, rule, road in draw(24, 60):
            world = World(rule, road)
            steps = sorted({one[:2] for one in world.situations})
            for size in range(4 if len(steps) < 4 else 3):
                for row in itertools.product(steps, repeat=size):
                    for index in range(-1, size + 1):
                        thing = (list(row), index)
                        good = loop_by_hand(world, thing)
                        counts[good] += 1
                        self.assertIs(is_loop(rule, road, thing), good)
        self.assertGreater(min(counts.values()), 100, counts)

    def test_all_small_papers(self):
        counts = {True: 0, False: 0}
        for rand, rule, road in draw(25, 120):
            world = World(rule, road)
            if len(world.states) > 3:
                continue
            for heights_of in itertools.product([None, 0, 1, 2, 3], repeat=len(world.states)):
                paper = {state: height for state, height in zip(world.states, heights_of) if height is not None}
                for number in range(4):
                    good = heights_by_hand(world, number, paper)
                    counts[good] += 1
                    self.assertIs(is_heights(rule, road, number, paper), good)
        self.assertGreater(min(counts.values()), 100, counts)


class TestEdges(ExactCase):

    def test_every_run_has_one_call(self):
        rule, road = Rule(1, {ZERO: [((), None)], UP: [((), None)]}), full_road([UP, ZERO])
        number, run = longest(rule, road)
        self.same([number, len(run), loop(rule, road)], [1, 1, None])
        self.same(heights(rule, road, 1), {(ZERO, 0): 1, (UP, 0): 1})
        self.same(heights(rule, road, 0), None)
        self.assertIs(is_heights(rule, road, 0, {}), False)
        self.assertIs(is_heights(rule, road, 0, {(ZERO, 0): 0, (UP, 0): 0}), False)

    def test_number_0_and_numbers_about_the_greatest(self):
        rule, road = small_rule(), full_road([ZERO, UP])
        self.same(longest(rule, road)[0], 3)
        paper = {(ZERO, 0): 3, (ZERO, 1): 2, (ZERO, 2): 1, (UP, 0): 1, (UP, 1): 2, (UP, 2): 1}
        for number in (0, 1, 2):
            self.same(heights(rule, road, number), None)
            self.assertIs(is_heights(rule, road, number, paper), False)
        for number in (3, 4, 10 ** 39):
            self.assertIs(is_heights(rule, road, number, heights(rule, road, number)), True)
            self.assertIs(is_heights(rule, road, number, paper), True)

    def test_a_loop_of_a_call_with_itself(self):
        rule, road = Rule(2, {ZERO: [((), 0), ((), None)]}), full_road([ZERO])
        self.same([longest(rule, road), heights(rule, road, 99)], [None, None])
        self.assertIs(is_loop(rule, road, loop(rule, road)), True)
        for many in range(1, 4):
            for index in range(many):
                self.assertIs(is_loop(rule, road, ([(ZERO, False)] * many, index)), True)
        self.assertIs(is_loop(rule, road, ([(ZERO, False)], 1)), False)
        self.assertIs(is_loop(rule, road, ([(ZERO, False)], -1)), False)
        self.assertIs(is_loop(rule, road, ([], 0)), False)

    def test_a_loop_of_several_shapes(self):
        rule = Rule(3, {ZERO: [((), 1), ((), None), ((), None)], UP: [((), None), ((), 2), ((), None)],
                        ONE: [((), None), ((), None), ((), 0)]})
        there, back = [(ZERO, UP), (UP, ONE)], [(ONE, ZERO)]
        road = Road([ZERO], there + back)
        run = [(ZERO, False), (UP, True), (ONE, False)]
        self.assertIs(is_loop(rule, road, (run, 0)), True)
        self.assertIs(is_loop(rule, road, loop(rule, road)), True)
        for index in (1, 2, 3, -1):
            self.assertIs(is_loop(rule, road, (run, index)), False)
        self.assertIs(is_loop(rule, Road([ZERO], there), (run, 0)), False)
        self.same([loop(rule, Road([ZERO], there)), longest(rule, Road([ZERO], there))[0]], [None, 4])
        self.assertIs(is_loop(rule, road, (run * 2, 0)), True)
        self.assertIs(is_loop(rule, road, (run * 2, 3)), True)
        self.assertIs(is_loop(rule, road, (run * 4 + run[:1], 1)), True)
        self.assertIs(is_loop(rule, road, (run * 4 + run[:1], 10)), True)
        self.assertIs(is_loop(rule, road, (run * 4 + run[:1], 12)), False)

    def test_moved_does_not_matter_for_the_state(self):
        rule, road = Rule(1, {UP: [((), 0)]}), full_road([UP])
        for run in itertools.product([(UP, False), (UP, True)], repeat=2):
            for index in (0, 1):
                self.assertIs(is_loop(rule, road, (list(run), index)), True)

    def test_the_same_cursor_with_another_shape_is_another_state(self):
        rule = Rule(1, {ZERO: [((), 0)], ONE: [((), None)]})
        road = Road([ZERO], [(ZERO, ONE)])
        self.assertIs(is_loop(rule, road, ([(ZERO, False), (ONE, False)], 0)), False)
        road = Road([ONE, ZERO], [(ONE, ZERO)])
        rule = Rule(1, {ZERO: [((), 0)], ONE: [((), 0)]})
        self.assertIs(is_loop(rule, road, ([(ONE, False), (ZERO, False)], 0)), False)
        self.assertIs(is_loop(rule, road, ([(ONE, False), (ZERO, False)], 1)), True)

    def test_a_run_whose_last_call_ends_is_no_loop(self):
        rule, road = endless_rule(), full_road([ZERO, ONE])
        for run in ([(ONE, False)], [(ZERO, False), (ONE, False)], [(ZERO, False), (ZERO, False), (ONE, False)]):
            for index in range(3):
                self.assertIs(is_loop(rule, road, (run, index)), False)
        self.same(longest(rule, road), None)
        self.same(longest(rule, Road([ONE], [])), (1, [(ONE, False)]))

    def test_a_loop_that_is_not_met(self):
        rule = Rule(3, {ZERO: [((), 1), ((), None), ((), 2)], ONE: [((), 0), ((), 0), ((), 0)]})
        road = Road([ZERO], [(ONE, ZERO)])
        self.same([longest(rule, road)[0], loop(rule, road)], [2, None])
        self.assertIs(is_heights(rule, road, 2, {(ZERO, 0): 2, (ZERO, 1): 1}), True)
        self.assertIs(is_heights(rule, road, 2, {(ZERO, 0): 2, (ZERO, 1): 1, (ZERO, 2): 9}), False)
        self.assertIs(is_heights(rule, road, 2, {(ZERO, 0): 2, (ZERO, 1): 1, (ONE, 0): 9}), False)

    def test_superfluous_states(self):
        rule = Rule(3, {ZERO: [((), 1), ((), None), ((), 1)], ONE: [((), None)] * 3})
        road = Road([ZERO], [(ONE, ZERO)])
        paper = heights(rule, road, 2)
        for more, good in (({(ZERO, 2): 2}, True), ({(ZERO, 2): 10 ** 30}, True), ({(ONE, 1): 1}, True),
                           ({(ZERO, 2): 1}, False), ({(ONE, 2): 0}, False), ({(ONE, 2): True}, False),
                           ({(ONE, 3): 1}, False), ({(TWO, 0): 1}, False), ({"": 1}, False), ({(ONE, -1): 1}, False)):
            self.assertIs(is_heights(rule, road, 2, {**paper, **more}), good)
            self.assertIs(is_heights(rule, road, 2, {**more, **paper}), good)
        rule = Rule(3, {ZERO: [((), 1), ((), None), ((), 1)], TWO: [((), None)] * 3})
        self.assertIs(is_heights(rule, Road([ZERO], []), 2, {(ZERO, 0): 2, (ZERO, 1): 1, (TWO, 0): 1}), False)

    def test_sixty_four_cursors(self):
        rule = Rule(64, {shape: [((), cursor + 1) for cursor in range(63)] + [((), None)] for shape in (ONE, UP)})
        road = full_road([ONE, UP])
        number, run = longest(rule, road)
        self.same([number, len(run), loop(rule, road)], [64, 64, None])
        self.assertIs(is_run(rule, road, run), True)
        paper = heights(rule, road, 64)
        self.assertIs(heights_by_hand(World(rule, road), 64, paper), True)
        self.same(heights(rule, road, 63), None)
        rule = rule.with_call(UP, 63, ((), 0))
        run, index = loop(rule, road)
        self.assertIs(loop_by_hand(World(rule, road), (run, index)), True)
        self.same([longest(rule, road), heights(rule, road, 10 ** 6)], [None, None])

    def test_twelve_shapes(self):
        shapes = [(width,) for width in range(6)] + [(width, width + 1) for width in range(5)] + [(5, 0)]
        rule = Rule(13, {shape: [((), min(cursor + 1, index + 1) if cursor <= index else None) for cursor in range(13)]
                         for index, shape in enumerate(shapes)})
        road = full_road(shapes)
        number = World(rule, road).most(None)
        self.same([longest(rule, road)[0], len(longest(rule, road)[1])], [number, number])
        self.assertIs(heights_by_hand(World(rule, road), number, heights(rule, road, number)), True)
        chain = Road(shapes[:1], list(zip(shapes, shapes[1:])))
        number = World(rule, chain).most(None)
        self.same(longest(rule, chain)[0], number)
        self.same(heights(rule, chain, number - 1), None)


class TestNear(ExactCase):

    def test_what_is_near_a_paper(self):
        counts = {True: 0, False: 0}
        for rand, rule, road in draw(26, 160):
            world, number = World(rule, road), World(rule, road).most(None)
            if number is None or len(world.states) > 8:
                continue
            paper = heights(rule, road, number)
            for thing in near(paper):
                good = heights_by_hand(world, number, thing)
                counts[good] += 1
                self.assertIs(self.untouched(is_heights, rule, road, number, thing), good)
        self.assertGreater(min(counts.values()), 50, counts)

    def test_what_is_near_a_loop(self):
        counts = {True: 0, False: 0}
        for rand, rule, road in draw(27, 120):
            world, found = World(rule, road), loop(rule, road)
            if found is None:
                continue
            run, index = found
            others = [(run * times, at) for times in range(1, 5) for at in range(-1, len(run) * times + 1)]
            for thing in itertools.chain(near(found), others, near(([*run, run[index]], len(run)))):
                good = loop_by_hand(world, thing)
                counts[good] += 1
                self.assertIs(self.untouched(is_loop, rule, road, thing), good)
        self.assertGreater(min(counts.values()), 100, counts)

    def test_any_object_gets_a_bool_itself(self):
        rule, road = small_rule(), full_road([ZERO, UP])
        paper = heights(rule, road, 3)
        results = [rule, road, longest(rule, road), (rule, 0), ([rule], 0), ([(rule, False)], 0), {(ZERO, 0): rule}]
        for thing in odd_things() + results:
            self.assertIs(self.untouched(is_heights, rule, road, 3, thing), False)
            self.assertIs(self.untouched(is_loop, rule, road, thing), False)
            for key in paper:
                wrong = {**paper, key: thing}
                self.assertIs(is_heights(rule, road, 9, wrong), heights_by_hand(World(rule, road), 9, wrong))
        rule, road = endless_rule(), full_road([ZERO])
        for thing in odd_things():
            self.assertIs(is_loop(rule, road, ([(ZERO, False)] * 3, thing)), is_one_of(thing, [1]))
            self.assertIs(is_loop(rule, road, (thing, 0)), False)
            self.assertIs(is_loop(rule, road, ([(ZERO, thing)] * 2, 0)), is_one_of(thing, [False]))
            self.assertIs(is_loop(rule, road, ([(ZERO, False), thing], 0)), is_one_of(thing, [(ZERO, False)]))

    def test_states_that_are_none(self):
        rule, road = Rule(2, {ONE: [((), 1), ((), None)], TWO: [((), 1), ((), None)]}), full_road([ONE])
        self.assertIs(is_heights(rule, road, 2, {(ONE, 0): 2, (ONE, 1): 1}), True)
        for wrong in ({((True,), 0): 2, (ONE, 1): 1}, {(ONE, False): 2, (ONE, 1): 1}, {(ONE, 0): 2, (ONE, True): 1},
                      {(ONE, 0): 2, (ONE, 1): True}, {(ONE, 0): 2, (ONE, 1): None}, {(ONE, 0): 2}, {(ONE, 1): 1}, {},
                      {(ONE, 0): 3, (ONE, 1): 1}, {(ONE, 0): 2, (ONE, 1): 2}, {(ONE, 0): 1, (ONE, 1): 1},
                      {(ONE, 0): 2, (ONE, 1): 0}, {(ONE, 0): 1, (ONE, 1): 0}, {(ONE, 0): "2", (ONE, 1): "1"},
                      {(ONE, 0): 2, (ONE, 1): 1, (ONE, 2): 1}, {(ONE, 0): 2, (ONE, 1): 1, (TWO, 0): 2, (TWO, 1): 1},
                      {(ONE, 0): 2, (ONE, 1): 1, (ONE, -1): 1}, {(ONE, 0): 2, (ONE, 1): 1, ONE: 1},
                      {(ONE, False, 0): 2, (ONE, False, 1): 1}, {(ONE, 0): 2, (ONE, 1): 1, 0: 1},
                      [((ONE, 0), 2), ((ONE, 1), 1)], [(ONE, 0), (ONE, 1)], ((ONE, 0), (ONE, 1))):
            self.assertIs(is_heights(rule, road, 2, wrong), False)

    def test_loops_that_are_none(self):
        rule, road = endless_rule(), full_road([ZERO, ONE])
        run = [(ZERO, False), (ZERO, False)]
        self.assertIs(is_loop(rule, road, (run, 0)), True)
        for wrong in ([run, 0], (run,), (run, 0, 0), (run, False), (run, None), (run, "0"), (run, -2), (run, 2),
                      (run, 10 ** 39), (run, 1), (tuple(run), 0), ([[ZERO, False]] * 2, 0), ([(ZERO, 0)] * 2, 0),
                      (run + [(ONE, False)], 0), ([(ZERO, True)] * 2, 0), (run[:1], 0), (run * 3, 1), ({0: run}, 0),
                      (0, run), ((run, 0), 0), run, 0, (run, [0]), ([(ZERO, False), ((False,), False)], 0)):
            self.assertIs(is_loop(rule, road, wrong), False)
        self.assertIs(is_loop(rule, road, (run * 4, 6)), True)
        self.assertIs(is_loop(rule, road, (run * 1000, 1000)), True)


class TestErrors(ExactCase):

    def test_mismatch_comes_first(self):
        rule = small_rule()
        for road in (full_road([ZERO, TWO]), Road([ZERO], [(ZERO, DOWN)]), Road([ONE], []),
                     Road([ZERO], [(TWO, ZERO)])):
            self.raises(Mismatch, longest, rule, road)
            self.raises(Mismatch, loop, rule, road)
            for number in [0, 5] + WRONG_NUMBERS:
                self.raises(Mismatch, heights, rule, road, number)
                for thing in (None, {}, {(ZERO, 0): 1}):
                    self.raises(Mismatch, is_heights, rule, road, number, thing)
                    self.raises(Mismatch, is_loop, rule, road, thing)

    def test_invalid_numbers(self):
        rule, road = small_rule(), full_road([ZERO, UP])
        for number in WRONG_NUMBERS + odd_things():
            if not isinstance(number, int) or isinstance(number, bool) or number < 0:
                self.raises(InvalidNumber, heights, rule, road, number)
                for thing in (None, {}, {(ZERO, 0): 1}, heights(rule, road, 3)):
                    self.raises(InvalidNumber, is_heights, rule, road, number, thing)
            else:
                self.assertIs(heights(rule, road, number) is None, number < 3)


class TestArguments(ExactCase):

    def test_returned_lists_and_dicts_are_new(self):
        rule, road = small_rule(), full_road([ZERO, UP])
        self.fresh(heights, rule, road, 3)
        for function, owner in ((longest, rule), (loop, endless_rule())):
            shapes = road if owner == rule else full_road([ZERO])
            first = function(owner, shapes)
            before = exact(first)
            for part in first:
                spoil_all(part)
            self.assertEqual(exact(function(owner, shapes)), before)

    def test_the_rule_and_the_road_are_as_before(self):
        for rand, rule, road in draw(28, 30):
            before = exact([rule.cursors, rule.calls, road.begin, road.changes])
            for function in (longest, loop):
                self.same(function(rule, road), function(rule, road))
            self.same(heights(rule, road, 7), heights(rule, road, 7))
            is_heights(rule, road, 7, {})
            is_loop(rule, road, ([], 0))
            self.assertEqual(exact([rule.cursors, rule.calls, road.begin, road.changes]), before)

    def test_by_name_in_another_order(self):
        rule, road = small_rule(), full_road([ZERO, UP])
        self.same(longest(road=road, rule=rule)[0], 3)
        self.same(heights(number=2, road=road, rule=rule), None)
        paper = heights(number=3, rule=rule, road=road)
        self.assertIs(is_heights(thing=paper, number=3, road=road, rule=rule), True)
        self.same(loop(road=road, rule=rule), None)
        self.assertIs(is_loop(thing=([(ZERO, False)] * 2, 0), road=full_road([ZERO]), rule=endless_rule()), True)


class TestFacts(ExactCase):

    def test_a_longest_run_or_a_loop(self):
        for rand, rule, road in draw(29, 500):
            self.assertIs(longest(rule, road) is None, loop(rule, road) is not None)

    def test_no_greatest_number_rises_if_changes_are_forbidden(self):
        shown = 0
        for rand, rule, road in draw(30, 1200):
            less = road.without([change for change in road.changes if rand.random() < 0.5])
            before, after = longest(rule, road), longest(rule, less)
            if before is not None:
                self.assertLessEqual(after[0], before[0])
                shown += after[0] < before[0]
            elif after is not None:
                shown += 1
        self.assertGreater(shown, 10)


if __name__ == "__main__":
    unittest.main()
