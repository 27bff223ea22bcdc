"""How often a hash is listed at most: runs, papers and loops."""

import itertools
import unittest

from loosecursors.errors import InvalidHash, InvalidNumber, Mismatch
from loosecursors.roads import Road, full_road
from loosecursors.rules import Rule
from loosecursors.runs import is_run, listed
from loosecursors.texts import parse_rule
from loosecursors.times import is_times_heights, is_times_loop, most_times, times_heights, times_loop
from tests.helpers import (WRONG_HASHES, WRONG_NUMBERS, ExactCase, World, code_for, draw, exact, is_one_of, near,
                           odd_things, spoil_all, turned_about)

ZERO, ONE, TWO, UP, DOWN = (0,), (1,), (2,), (0, 1), (1, 0)


def small_rule():
    """Every run lists the hash 1 once, twice or three times at most, if it is in the second bucket of two."""
    return parse_rule("cursors 3\nshape 0>1\ncall 1.0 end\ncall 0.0 1.1 next 2\ncall end\n"
                      "shape 1\ncall 0.1 next 1\ncall 0.0 next 2\ncall 0.1 end")


def endless_rule():
    """A loop that lists no hash with the shape of one bucket, and one that lists the hash 0 again and again."""
    return parse_rule("cursors 2\nshape 0\ncall next 1\ncall next 0\nshape 1\ncall 0.0 next 1\ncall next 0")


def heights_by_hand(world, code, number, thing):
    """Whether a thing is a paper that no run lists a hash more often than a number, by the texts of its keys."""
    if not isinstance(thing, dict) or not {exact(key) for key in thing} <= {exact(one) for one in world.situations}:
        return False
    if not all([isinstance(height, int) and exact(height).isdigit() for height in thing.values()]):
        return False
    if not all([thing.get(one, number + 1) <= number for one in world.begin]):
        return False
    for one in thing:
        lists = int(world.lists(one, code))
        if thing[one] < lists:
            return False
        for two in world.behind[one]:
            if two not in thing or thing[two] > thing[one] - lists:
                return False
    return True


def loop_by_hand(world, code, thing):
    """Whether a thing is a loop that lists a hash: its situations, and the first one of it once more."""
    if not isinstance(thing, tuple) or len(thing) != 2 or not isinstance(thing[0], list):
        return False
    run, index = thing
    found = world.followed(run)
    if not is_one_of(index, range(len(run))) or found is None or found[index] not in world.behind[found[-1]]:
        return False
    return any([world.lists(one, code) for one in found[index:]])


class TestExamples(ExactCase):

    def test_the_example(self):
        self.example("""
>>> from loosecursors.roads import full_road
>>> from loosecursors.times import is_times_heights, most_times, times_loop
>>> from loosecursors.texts import parse_rule
>>> rule = parse_rule('cursors 2\\nshape 0\\ncall 0.0 end\\ncall end\\nshape 1\\ncall 0.0 next 1\\ncall 0.1 end')
>>> road = full_road([(0,), (1,)])
>>> [most_times(rule, road, 1)[0], times_loop(rule, road, 1), is_times_heights(rule, road, 1, 0, {((0,), False, 0): 1})]
[1, None, False]
""")


class TestDrawn(ExactCase):

    def test_most_times(self):
        kinds = {None: 0, 0: 0, 1: 0, 2: 0, 3: 0}
        for rand, rule, road in draw(41, 1000):
            code = code_for(rand, road)
            number = World(rule, road).most(code)
            found = most_times(rule, road, code)
            kinds[number and min(number, 3)] += 1
            if number is None:
                self.assertIsNone(found)
                continue
            self.assertIsInstance(found, tuple)
            self.same([len(found), found[0]], [2, number])
            self.assertIs(is_run(rule, road, found[1]), True)
            self.same(listed(rule, road, found[1], code).count(True), number)
        self.assertGreater(min(kinds.values()), 20, kinds)

    def test_heights(self):
        for rand, rule, road in draw(42, 700):
            code, world = code_for(rand, road), World(rule, road)
            most = world.most(code)
            for number in (0, 1, 5, 64, 10 ** 39) if most is None else (0, max(most - 1, 0), most, most + 1, 10 ** 39):
                paper = times_heights(rule, road, code, number)
                self.assertIs(paper is None, most is None or number < most)
                if paper is not None:
                    self.assertIs(heights_by_hand(world, code, number, paper), True)
                    self.same(list(paper), sorted(paper))
                    self.assertIs(is_times_heights(rule, road, code, number, paper), True)
                    self.assertIs(is_times_heights(rule, road, code, number, turned_about(rand, paper)), True)
                    self.assertIs(is_times_heights(rule, road, code, number + 1, paper), True)
                    if most > 0:
                        self.assertIs(is_times_heights(rule, road, code, most - 1, paper), False)

    def test_loops(self):
        for rand, rule, road in draw(43, 700):
            code, world = code_for(rand, road), World(rule, road)
            found = times_loop(rule, road, code)
            self.assertIs(found is None, world.most(code) is not None)
            if found is not None:
                self.assertIs(loop_by_hand(world, code, found), True)
                self.assertIs(is_times_loop(rule, road, code, found), True)

    def test_all_small_runs_with_all_indexes(self):
        counts = {True: 0, False: 0}
        for rand, rule, road in draw(44, 80):
            world, code = World(rule, road), code_for(rand, road)
            steps = sorted({one[:2] for one in world.situations})
            for size in range(4 if len(steps) < 4 else 3):
                for row in itertools.product(steps, repeat=size):
                    for index in range(-1, size + 1):
                        thing = (list(row), index)
                        good = loop_by_hand(world, code, thing)
                        counts[good] += 1
                        self.assertIs(is_times_loop(rule, road, code, thing), good)
        self.assertGreater(min(counts.values()), 100, counts)

    def test_all_small_papers(self):
        counts = {True: 0, False: 0}
        for rand, rule, road in draw(45, 200):
            world, code = World(rule, road), code_for(rand, road)
            if len(world.situations) > 3:
                continue
            for heights in itertools.product([None, -1, 0, 1, 2], repeat=len(world.situations)):
                paper = {one: height for one, height in zip(world.situations, heights) if height is not None}
                for number in range(3):
                    good = heights_by_hand(world, code, number, paper)
                    counts[good] += 1
                    self.assertIs(is_times_heights(rule, road, code, number, paper), good)
        self.assertGreater(min(counts.values()), 100, counts)


class TestEdges(ExactCase):

    def test_the_first_call_lists_the_hash_or_none_does(self):
        rule, road = Rule(1, {ONE: [(((0, 1),), None)]}), full_road([ONE])
        self.same([most_times(rule, road, 3), most_times(rule, road, 2)], [(1, [(ONE, False)]), (0, [(ONE, False)])])
        self.same([times_heights(rule, road, 3, 1), times_heights(rule, road, 3, 0)], [{(ONE, False, 0): 1}, None])
        self.same(times_heights(rule, road, 2, 0), {(ONE, False, 0): 0})
        self.assertIs(is_times_heights(rule, road, 3, 1, {(ONE, False, 0): 0}), False)
        self.assertIs(is_times_heights(rule, road, 2, 0, {(ONE, False, 0): 0}), True)

    def test_a_run_for_ever_that_does_not_list_the_hash(self):
        rule, road = endless_rule(), full_road([ZERO])
        number, run = most_times(rule, road, 4)
        self.same([number, listed(rule, road, run, 4).count(True), times_loop(rule, road, 4)], [0, 0, None])
        paper = times_heights(rule, road, 4, 0)
        self.same(paper, {(ZERO, False, 0): 0, (ZERO, False, 1): 0})
        for number in (0, 1, 7):
            self.assertIs(is_times_heights(rule, road, 4, number, paper), True)
        self.assertIs(is_times_heights(rule, road, 4, 7, {(ZERO, False, 0): 3, (ZERO, False, 1): 3}), True)
        self.assertIs(is_times_heights(rule, road, 4, 7, {(ZERO, False, 0): 3, (ZERO, False, 1): 2}), False)
        self.assertIs(is_times_loop(rule, road, 4, ([(ZERO, False)] * 2, 0)), False)

    def test_a_run_that_lists_the_hash_again_and_again(self):
        rule, road = endless_rule(), full_road([ZERO, ONE])
        for code in (0, 2, 30):
            self.same([most_times(rule, road, code), times_heights(rule, road, code, 10 ** 9)], [None, None])
            self.assertIs(loop_by_hand(World(rule, road), code, times_loop(rule, road, code)), True)
            self.assertIs(is_times_loop(rule, road, code, ([(ONE, False)] * 2, 0)), True)
            self.assertIs(is_times_loop(rule, road, code, ([(ONE, False), (ZERO, False)], 0)), True)
            self.assertIs(is_times_loop(rule, road, code, ([(ZERO, False)] * 2, 0)), False)
        for code in (1, 3, 31):
            self.same([most_times(rule, road, code)[0], times_loop(rule, road, code)], [0, None])
            self.assertIs(is_times_loop(rule, road, code, ([(ONE, False)] * 2, 0)), False)

    def test_a_listing_ahead_of_a_loop_and_one_behind_it(self):
        rule = Rule(4, {ZERO: [(((0, 0),), 1), ((), 2), ((), 1), ((), None)],
                        ONE: [((), None), ((), None), ((), 3), (((0, 0),), None)]})
        road = full_road([ZERO, ONE])
        number, run = most_times(rule, road, 8)
        self.same([number, listed(rule, road, run, 8).count(True), times_loop(rule, road, 8)], [2, 2, None])
        self.assertIs(is_run(rule, road, run), True)
        self.assertIs(is_times_heights(rule, road, 8, 2, times_heights(rule, road, 8, 2)), True)
        self.same(times_heights(rule, road, 8, 1), None)
        # The listing ahead of the loop is none of a call from the index on.
        run = [(ZERO, False)] * 3
        self.assertIs(is_times_loop(rule, road, 8, (run, 1)), False)
        rule = rule.with_call(ZERO, 2, (((0, 0),), 1))
        self.assertIs(is_times_loop(rule, road, 8, (run, 1)), True)
        self.assertIs(is_times_loop(rule, road, 8, (run, 0)), False)
        self.assertIs(is_times_loop(rule, road, 8, (run, 2)), False)
        self.assertIs(is_times_loop(rule, road, 8, (run + run[:1], 2)), True)
        self.same(most_times(rule, road, 8), None)

    def test_moved_changes_between_two_calls(self):
        rule = Rule(2, {UP: [(((0, 0),), 1), (((1, 1),), None)]})
        road = full_road([UP])
        self.same(most_times(rule, road, 1), (2, [(UP, False), (UP, True)]))
        self.same(most_times(rule, road, 2)[0], 1)
        paper = times_heights(rule, road, 1, 2)
        self.assertIs(heights_by_hand(World(rule, road), 1, 2, paper), True)
        self.assertIs(is_times_heights(rule, road, 1, 2, {(UP, False, 0): 2, (UP, True, 0): 1,
                                                          (UP, False, 1): 0, (UP, True, 1): 1}), True)
        self.assertIs(is_times_heights(rule, road, 1, 2, {(UP, False, 0): 2, (UP, True, 0): 0,
                                                          (UP, False, 1): 0, (UP, True, 1): 1}), False)
        self.assertIs(is_times_heights(rule, road, 1, 2, {(UP, False, 0): 2, (UP, False, 1): 0, (UP, True, 1): 1}), False)
        self.same(times_heights(rule, road, 1, 1), None)

    def test_a_loop_that_lists_while_the_key_is_moved(self):
        rule, road = Rule(1, {UP: [(((1, 1),), 0)]}), full_road([UP])
        self.assertIs(loop_by_hand(World(rule, road), 3, times_loop(rule, road, 3)), True)
        self.assertIs(is_times_loop(rule, road, 3, ([(UP, True)], 0)), True)
        self.assertIs(is_times_loop(rule, road, 3, ([(UP, False)], 0)), False)
        self.assertIs(is_times_loop(rule, road, 3, ([(UP, True), (UP, False)], 1)), False)
        self.assertIs(is_times_loop(rule, road, 3, ([(UP, False), (UP, True)], 1)), True)
        self.same([most_times(rule, road, 2)[0], most_times(rule, road, 3)], [0, None])

    def test_a_loop_of_several_shapes(self):
        rule = Rule(1, {ZERO: [((), 0)], ONE: [(((0, 1),), 0)], TWO: [((), 0)]})
        road = Road([ZERO], [(ZERO, ONE), (ONE, TWO), (TWO, ZERO)])
        self.assertIs(is_times_loop(rule, road, 3, ([(ZERO, False), (ONE, False), (TWO, False)], 0)), True)
        self.assertIs(is_times_loop(rule, road, 2, ([(ZERO, False), (ONE, False), (TWO, False)], 0)), False)
        self.assertIs(is_times_loop(rule, road, 3, ([(ZERO, False), (ONE, False), (TWO, False)], 1)), False)
        rule = rule.with_call(ONE, 0, (((0, 1),), None))
        self.same([most_times(rule, road, 3)[0], times_loop(rule, road, 3)], [1, None])

    def test_every_run_has_one_call(self):
        rule, road = Rule(1, {ZERO: [((), None)], ONE: [(((0, 1),), None)]}), full_road([ZERO, ONE])
        self.same([most_times(rule, road, 1), most_times(rule, road, 2)[0]], [(1, [(ONE, False)]), 0])
        self.same(times_loop(rule, road, 1), None)

    def test_shapes_and_cursors_that_are_not_met(self):
        rule = Rule(2, {shape: [((), None), (((0, 0),), 1)] for shape in (ZERO, ONE, TWO)})
        road = Road([ZERO], [(ONE, ZERO)])
        self.same([most_times(rule, road, 0), times_loop(rule, road, 0)], [(0, [(ZERO, False)]), None])
        paper = {(ZERO, False, 0): 0}
        for more, good in (({}, True), ({(ONE, False, 0): 5}, True), ({(ONE, False, 0): 0}, True),
                           ({(ZERO, False, 1): 5}, False), ({(ONE, False, 0): -1}, False), ({(TWO, False, 0): 0}, False),
                           ({(ONE, True, 0): 0}, False), ({(ONE, False, 2): 0}, False), ({(ONE, 0): 0}, False)):
            self.assertIs(is_times_heights(rule, road, 0, 0, {**paper, **more}), good)

    def test_sixty_four_cursors(self):
        rule = Rule(64, {shape: [(((0, 0),), cursor + 1) for cursor in range(63)] + [(((0, 0),), None)]
                         for shape in (ONE, UP)})
        road = full_road([ONE, UP])
        number, run = most_times(rule, road, 6)
        self.same([number, listed(rule, road, run, 6)], [64, [True] * 64])
        self.same(most_times(rule, road, 7)[0], 64)
        self.same(most_times(rule, full_road([ONE]), 7)[0], 0)
        self.same(times_heights(rule, road, 6, 63), None)
        self.assertIs(heights_by_hand(World(rule, road), 6, 64, times_heights(rule, road, 6, 64)), True)
        rule = rule.with_call(ONE, 63, ((), 62))
        self.assertIs(loop_by_hand(World(rule, road), 6, times_loop(rule, road, 6)), True)

    def test_twelve_shapes(self):
        shapes = [(width,) for width in range(6)] + [(width, width + 1) for width in range(5)] + [(5, 0)]
        rule = Rule(3, {shape: [(((0, 0),), 1), (tuple([(table, 0) for table in range(len(shape))]), 2), ((), None)]
                        for shape in shapes})
        road = full_road(shapes)
        for code in (0, 1, 2, 8, 31):
            number, run = most_times(rule, road, code)
            self.same([number, listed(rule, road, run, code).count(True)], [World(rule, road).most(code)] * 2)
            self.assertIs(heights_by_hand(World(rule, road), code, 2, times_heights(rule, road, code, 2)), True)
        endless = rule.with_call(shapes[10], 2, ((), 1))
        self.assertIs(loop_by_hand(World(endless, road), 1, times_loop(endless, road, 1)), True)


class TestNear(ExactCase):

    def test_what_is_near_a_paper(self):
        counts = {True: 0, False: 0}
        for rand, rule, road in draw(46, 200):
            world, code = World(rule, road), code_for(rand, road)
            number = world.most(code)
            if number is None or len(world.situations) > 7:
                continue
            for thing in near(times_heights(rule, road, code, number)):
                good = heights_by_hand(world, code, number, thing)
                counts[good] += 1
                self.assertIs(self.untouched(is_times_heights, rule, road, code, number, thing), good)
        self.assertGreater(min(counts.values()), 50, counts)

    def test_what_is_near_a_loop(self):
        counts = {True: 0, False: 0}
        for rand, rule, road in draw(47, 150):
            world, code = World(rule, road), code_for(rand, road)
            found = times_loop(rule, road, code)
            if found is None:
                continue
            run, index = found
            others = [(run * times, at) for times in range(1, 5) for at in range(-1, len(run) * times + 1)]
            for thing in itertools.chain(near(found), others, near(([*run, run[index]], len(run)))):
                good = loop_by_hand(world, code, thing)
                counts[good] += 1
                self.assertIs(self.untouched(is_times_loop, rule, road, code, thing), good)
        self.assertGreater(min(counts.values()), 100, counts)

    def test_any_object_gets_a_bool_itself(self):
        rule, road = small_rule(), full_road([ONE, UP])
        world = World(rule, road)
        number = world.most(1)
        paper = times_heights(rule, road, 1, number)
        results = [rule, road, most_times(rule, road, 1), (rule, 0), ([rule], 0), ([(rule, False)], 0),
                   {(ONE, False, 0): rule}]
        for thing in odd_things() + results:
            self.assertIs(self.untouched(is_times_heights, rule, road, 1, number, thing), False)
            self.assertIs(self.untouched(is_times_loop, rule, road, 1, thing), False)
            for key in paper:
                wrong = {**paper, key: thing}
                self.assertIs(is_times_heights(rule, road, 1, 9, wrong), heights_by_hand(world, 1, 9, wrong))
        rule, road = endless_rule(), full_road([ONE])
        for thing in odd_things():
            self.assertIs(is_times_loop(rule, road, 0, ([(ONE, False)] * 2, thing)), is_one_of(thing, [0]))
            self.assertIs(is_times_loop(rule, road, 0, (thing, 0)), False)
            self.assertIs(is_times_loop(rule, road, 0, ([(ONE, thing)] * 2, 0)), is_one_of(thing, [False]))

    def test_situations_that_are_none(self):
        rule, road = Rule(2, {ONE: [(((0, 0),), 1), ((), None)], UP: [((), None)] * 2}), full_road([ONE])
        good = {(ONE, False, 0): 1, (ONE, False, 1): 0}
        self.assertIs(is_times_heights(rule, road, 0, 1, good), True)
        for wrong in ({((True,), False, 0): 1, (ONE, False, 1): 0}, {(ONE, 0, 0): 1, (ONE, False, 1): 0},
                      {(ONE, False, False): 1, (ONE, False, 1): 0}, {(ONE, False, 0): 1, (ONE, False, True): 0},
                      {(ONE, False, 0): True, (ONE, False, 1): 0}, {(ONE, False, 0): 1, (ONE, False, 1): False},
                      {(ONE, False, 0): 1, (ONE, False, 1): None}, {(ONE, False, 0): 1, (ONE, False, 1): -1},
                      {(ONE, False, 0): 1}, {(ONE, False, 1): 0}, {}, {(ONE, False, 0): 0, (ONE, False, 1): 0},
                      {(ONE, False, 0): 2, (ONE, False, 1): 0}, {(ONE, False, 0): 1, (ONE, False, 1): 1},
                      {(ONE, 0): 1, (ONE, 1): 0}, {**good, (ONE, True, 0): 1}, {**good, (UP, False, 0): 1},
                      {**good, (ONE, None, 0): 1}, {**good, "": 0}, {**good, 5: 0}, {**good, (ONE, False, -1): 0},
                      {(ONE, False, 0): "1", (ONE, False, 1): "0"}, list(good), tuple(good), list(good.items())):
            self.assertIs(is_times_heights(rule, road, 0, 1, wrong), False)

    def test_loops_that_are_none(self):
        rule, road = endless_rule(), full_road([ONE])
        run = [(ONE, False), (ONE, False)]
        self.assertIs(is_times_loop(rule, road, 0, (run, 0)), True)
        for wrong in ([run, 0], (run,), (run, 0, 0), (run, False), (run, None), (run, "0"), (run, -2), (run, 2),
                      (run, 10 ** 39), (run, 1), (tuple(run), 0), ([[ONE, False]] * 2, 0), ([(ONE, 0)] * 2, 0),
                      ([(ONE, True)] * 2, 0), (run[:1], 0), (run * 3, 1), ({0: run}, 0), (0, run), run, 0,
                      ([((True,), False)] * 2, 0), ([], 0), ([(ZERO, False)] * 2, 0)):
            self.assertIs(is_times_loop(rule, road, 0, wrong), False)
        self.assertIs(is_times_loop(rule, road, 0, (run * 4, 6)), True)
        self.assertIs(is_times_loop(rule, road, 0, (run * 1000, 1000)), True)


class TestErrors(ExactCase):

    def test_mismatch_comes_first(self):
        rule = small_rule()
        for road in (full_road([ONE, TWO]), Road([ONE], [(ONE, DOWN)]), Road([ZERO], []), Road([ONE], [(TWO, ONE)])):
            for code in [0, 31] + WRONG_HASHES:
                self.raises(Mismatch, most_times, rule, road, code)
                self.raises(Mismatch, times_loop, rule, road, code)
                self.raises(Mismatch, is_times_loop, rule, road, code, None)
                for number in [0, 5] + WRONG_NUMBERS:
                    self.raises(Mismatch, times_heights, rule, road, code, number)
                    self.raises(Mismatch, is_times_heights, rule, road, code, number, {})

    def test_invalid_hash_ahead_of_invalid_number(self):
        rule, road = small_rule(), full_road([ONE, UP])
        for code in WRONG_HASHES + odd_things():
            if is_one_of(code, range(32)):
                continue
            self.raises(InvalidHash, most_times, rule, road, code)
            self.raises(InvalidHash, times_loop, rule, road, code)
            for thing in (None, {}, ([], 0), ([(ONE, False)], 0)):
                self.raises(InvalidHash, is_times_loop, rule, road, code, thing)
                for number in (0, 5, -1, True, None, "5"):
                    self.raises(InvalidHash, times_heights, rule, road, code, number)
                    self.raises(InvalidHash, is_times_heights, rule, road, code, number, thing)

    def test_invalid_numbers(self):
        rule, road = small_rule(), full_road([ONE, UP])
        most = World(rule, road).most(1)
        for number in WRONG_NUMBERS + odd_things():
            if not isinstance(number, int) or isinstance(number, bool) or number < 0:
                self.raises(InvalidNumber, times_heights, rule, road, 1, number)
                for thing in (None, {}, {(ONE, False, 0): 1}, times_heights(rule, road, 1, most)):
                    self.raises(InvalidNumber, is_times_heights, rule, road, 1, number, thing)
            else:
                self.assertIs(times_heights(rule, road, 1, number) is None, number < most)


class TestArguments(ExactCase):

    def test_returned_lists_and_dicts_are_new(self):
        rule, road = small_rule(), full_road([ONE, UP])
        self.fresh(times_heights, rule, road, 1, 9)
        for function, owner, shapes in ((most_times, rule, road), (times_loop, endless_rule(), full_road([ONE]))):
            first = function(owner, shapes, 0)
            before = exact(first)
            for part in first:
                spoil_all(part)
            self.assertEqual(exact(function(owner, shapes, 0)), before)

    def test_the_rule_and_the_road_are_as_before(self):
        for rand, rule, road in draw(48, 30):
            before = exact([rule.cursors, rule.calls, road.begin, road.changes])
            for function in (most_times, times_loop):
                self.same(function(rule, road, 1), function(rule, road, 1))
            self.same(times_heights(rule, road, 1, 7), times_heights(rule, road, 1, 7))
            is_times_heights(rule, road, 1, 7, {})
            is_times_loop(rule, road, 1, ([], 0))
            self.assertEqual(exact([rule.cursors, rule.calls, road.begin, road.changes]), before)

    def test_by_name_in_another_order(self):
        rule, road = small_rule(), full_road([ONE])
        self.same(most_times(code=1, road=road, rule=rule)[0], 2)
        self.same(times_heights(number=1, code=1, road=road, rule=rule), None)
        paper = times_heights(number=2, code=1, rule=rule, road=road)
        self.assertIs(is_times_heights(thing=paper, number=2, code=1, road=road, rule=rule), True)
        self.same(times_loop(code=1, road=road, rule=rule), None)
        self.assertIs(is_times_loop(thing=([(ONE, False)] * 2, 0), code=0, road=road, rule=endless_rule()), True)


class TestFacts(ExactCase):

    def test_a_greatest_number_or_a_loop(self):
        for rand, rule, road in draw(49, 300):
            for code in (0, 1, 3, 30):
                self.assertIs(most_times(rule, road, code) is None, times_loop(rule, road, code) is not None)

    def test_no_greatest_number_rises_if_changes_are_forbidden(self):
        shown = 0
        for rand, rule, road in draw(50, 1200):
            code = code_for(rand, road)
            less = road.without([change for change in road.changes if rand.random() < 0.5])
            before, after = most_times(rule, road, code), most_times(rule, less, code)
            if before is not None:
                self.assertLessEqual(after[0], before[0])
                shown += after[0] < before[0]
            elif after is not None:
                shown += 1
        self.assertGreater(shown, 10)


if __name__ == "__main__":
    unittest.main()
