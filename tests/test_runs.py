"""Runs: which lists are runs, and what their calls do."""

import copy
import itertools
import unittest

from loosecursors.errors import InvalidHash, InvalidRun, Mismatch
from loosecursors.roads import Road, full_road
from loosecursors.rules import Rule
from loosecursors.runs import cursors_of, is_run, is_whole, listed, lists_of
from loosecursors.texts import parse_rule
from tests.helpers import ExactCase, is_one_of, near, odd_things

ZERO, ONE, UP, DOWN = (0,), (1,), (0, 1), (1, 0)
WRONG_HASHES = [-1, 32, True, False, None, "0", (0,), [0], {}, 10 ** 39]


def small_rule():
    return parse_rule("cursors 3\n"
                      "shape 0\ncall 0.0 next 1\ncall end\ncall 0.0 next 0\n"
                      "shape 0>1\ncall 0.0 1.0 next 2\ncall 1.1 next 1\ncall 1.0 end\n"
                      "shape 1\ncall 0.0 next 2\ncall next 0\ncall 0.1 end\n"
                      "shape 3\ncall end\ncall end\ncall end")


def small_road():
    return Road([ZERO, ONE], [(ZERO, UP), (UP, ONE), (ONE, ZERO)])


def looping():
    """A rule and a road with a run that goes on for ever."""
    return parse_rule("cursors 2\nshape 0\ncall 0.0 next 1\ncall next 0"), full_road([ZERO])


def runs_by_hand(rule, road, most):
    """All runs of at most so many calls, each with its cursors, its lists and whether it is whole."""
    calls, found = rule.calls, []
    moves = {1: [False], 2: [False, True]}
    rows = [([(shape, moved)], [0]) for shape in road.begin for moved in moves[len(shape)]]
    while rows:
        run, cursors = rows.pop(0)
        done = [calls[shape][cursor] for (shape, _), cursor in zip(run, cursors)]
        later = done[-1][1]
        found.append((run, cursors, [call[0] for call in done], later is None))
        if later is None or len(run) == most:
            continue
        last = run[-1][0]
        for shape in [last] + [other for first, other in road.changes if first == last]:
            rows += [(run + [(shape, moved)], cursors + [later]) for moved in moves[len(shape)]]
    return found


class TestExamples(ExactCase):

    def test_the_example(self):
        self.example("""
>>> from loosecursors.roads import full_road
>>> from loosecursors.runs import cursors_of, is_run, is_whole, listed, lists_of
>>> from loosecursors.texts import parse_rule
>>> rule = parse_rule('cursors 2\\nshape 0\\ncall 0.0 end\\ncall end\\nshape 1\\ncall 0.0 next 1\\ncall 0.1 end')
>>> road, run = full_road([(0,), (1,)]), [((1,), False), ((0,), False)]
>>> [cursors_of(rule, road, run), lists_of(rule, road, run), is_whole(rule, road, run), listed(rule, road, run, 3)]
[[0, 1], [((0, 0),), ()], True, [False, False]]
>>> is_run(rule, road, [((0,), False), ((0,), False)])
False
""")


class TestRuns(ExactCase):

    def setUp(self):
        self.rule, self.road = small_rule(), small_road()
        self.runs = runs_by_hand(self.rule, self.road, 5)

    def test_all_short_runs(self):
        self.assertGreater(len(self.runs), 30)
        for run, cursors, lists, whole in self.runs:
            self.assertIs(self.untouched(is_run, self.rule, self.road, run), True)
            self.same(self.untouched(cursors_of, self.rule, self.road, run), cursors)
            self.same(self.untouched(lists_of, self.rule, self.road, run), lists)
            self.assertIs(self.untouched(is_whole, self.rule, self.road, run), whole)

    def test_all_hashes(self):
        for run, _, lists, _ in self.runs:
            for code in range(32):
                wanted = []
                for (shape, moved), places in zip(run, lists):
                    wanted.append((int(moved), code % 2 ** shape[int(moved)]) in places)
                self.same(listed(self.rule, self.road, run, code), wanted)

    def test_all_lists_of_steps(self):
        steps = [(ZERO, False), (ONE, False), (UP, False), (UP, True), (ZERO, True), (DOWN, False), ((3,), False)]
        wanted = {repr(row[0]) for row in self.runs}
        for size in range(5):
            for row in itertools.product(steps, repeat=size):
                self.assertIs(is_run(self.rule, self.road, list(row)), repr(list(row)) in wanted)

    def test_what_is_near_a_run(self):
        wanted = {repr(row[0]) for row in self.runs}
        counts = {True: 0, False: 0}
        for run, _, _, _ in self.runs:
            for thing in near(run):
                if isinstance(thing, (list, tuple)) and len(thing) > 5:
                    continue
                good = repr(thing) in wanted
                counts[good] += 1
                self.assertIs(is_run(self.rule, self.road, thing), good)
                if not good and len(run) < 4:
                    for function in (cursors_of, lists_of, is_whole):
                        self.raises(InvalidRun, function, self.rule, self.road, thing)
                    self.raises(InvalidRun, listed, self.rule, self.road, thing, 0)
        self.assertGreater(min(counts.values()), 20)

    def test_any_object_gets_a_bool_itself(self):
        for thing in odd_things() + [self.rule, self.road, [self.rule], [(ZERO, self.rule)], [(self.rule, False)]]:
            good = is_one_of(thing, [[((0,), False)]])
            self.assertIs(self.untouched(is_run, self.rule, self.road, thing), good)
            if not good:
                for function in (cursors_of, lists_of, is_whole):
                    self.raises(InvalidRun, function, self.rule, self.road, thing)
                for code in (0, 31):
                    self.raises(InvalidRun, listed, self.rule, self.road, thing, code)

    def test_an_empty_list_is_none(self):
        self.assertIs(is_run(self.rule, self.road, []), False)
        self.raises(InvalidRun, is_whole, self.rule, self.road, [])

    def test_the_first_shape_is_one_to_begin_with(self):
        for moved in (False, True):
            self.assertIs(is_run(self.rule, self.road, [(UP, moved)]), False)
        self.assertIs(is_run(self.rule, Road([UP], []), [(UP, True)]), True)

    def test_a_shape_of_the_rule_alone_is_none_of_the_road(self):
        self.assertIs(is_run(self.rule, self.road, [((3,), False)]), False)
        self.assertIs(is_run(self.rule, self.road, [(ZERO, False), ((3,), False)]), False)

    def test_a_change_goes_one_way(self):
        self.assertIs(is_run(self.rule, self.road, [(ONE, False), (ZERO, False)]), True)
        self.assertIs(is_run(self.rule, self.road, [(ZERO, False), (ONE, False)]), False)

    def test_moved_may_change_while_the_shape_stays(self):
        for moves in itertools.product((False, True), repeat=2):
            run = [(ZERO, False)] + [(UP, moved) for moved in moves]
            self.assertIs(is_run(self.rule, self.road, run), True)
            self.same(cursors_of(self.rule, self.road, run), [0, 1, 1])

    def test_a_number_in_place_of_a_bool(self):
        for moved in (0, 1, None, "", ()):
            self.assertIs(is_run(self.rule, self.road, [(ZERO, moved)]), False)
            self.assertIs(is_run(self.rule, self.road, [(ZERO, False), (UP, moved)]), False)

    def test_bools_in_place_of_widths(self):
        self.assertIs(is_run(self.rule, self.road, [((False,), False)]), False)
        self.assertIs(is_run(self.rule, self.road, [((True,), False)]), False)
        self.assertIs(is_run(self.rule, self.road, [(ZERO, False), ((False, 1), False)]), False)

    def test_lists_in_place_of_tuples(self):
        self.assertIs(is_run(self.rule, self.road, ((ZERO, False),)), False)
        self.assertIs(is_run(self.rule, self.road, [[ZERO, False]]), False)
        self.assertIs(is_run(self.rule, self.road, [([0], False)]), False)

    def test_one_call_more(self):
        for run, _, _, whole in self.runs:
            if len(run) < 5:
                self.assertIs(is_run(self.rule, self.road, run + [run[-1]]), not whole)

    def test_a_run_gone_through_several_times(self):
        wanted = {repr(row[0]) for row in self.runs}
        for run, _, _, _ in self.runs:
            for times in range(1, 5):
                if len(run) * times <= 5:
                    self.assertIs(is_run(self.rule, self.road, run * times), repr(run * times) in wanted)

    def test_the_key_is_at_its_place_of_the_moment(self):
        run = [(ZERO, False), (UP, True), (UP, False), (UP, True)]
        self.same(lists_of(self.rule, self.road, run), [((0, 0),), ((1, 1),), ((1, 1),), ((1, 1),)])
        self.same(listed(self.rule, self.road, run, 3), [True, True, False, True])
        self.same(listed(self.rule, self.road, run, 2), [True, False, False, False])

    def test_a_call_that_lists_nothing(self):
        rule = Rule(1, {ZERO: [((), None)], ONE: [((), 0)]})
        road = full_road([ZERO, ONE])
        run = [(ONE, False), (ONE, False), (ZERO, False)]
        self.same([cursors_of(rule, road, run), lists_of(rule, road, run)], [[0, 0, 0], [(), (), ()]])
        self.same([is_whole(rule, road, run), listed(rule, road, run, 5)], [True, [False] * 3])

    def test_whole_runs_and_others(self):
        self.assertIs(is_whole(self.rule, self.road, [(ZERO, False)]), False)
        self.assertIs(is_whole(self.rule, self.road, [(ZERO, False), (ZERO, False)]), True)
        self.assertIs(is_whole(self.rule, self.road, [(ONE, False), (ONE, False)]), True)

    def test_returned_lists_are_new(self):
        for run, _, _, _ in self.runs[:9]:
            self.fresh(cursors_of, self.rule, self.road, run)
            self.fresh(lists_of, self.rule, self.road, run)
            self.fresh(listed, self.rule, self.road, run, 3)

    def test_the_rule_and_the_road_are_as_before(self):
        before = [self.rule.cursors, self.rule.calls, self.road.begin, self.road.changes]
        before = copy.deepcopy(before)
        for run, _, _, _ in self.runs:
            is_run(self.rule, self.road, run)
            is_run(self.rule, self.road, run[1:])
            listed(self.rule, self.road, run, 1)
        self.same([self.rule.cursors, self.rule.calls, self.road.begin, self.road.changes], before)

    def test_by_name_in_another_order(self):
        rule, road = self.rule, self.road
        run = [(ZERO, False), (UP, True)]
        self.assertIs(is_run(thing=run, road=road, rule=rule), True)
        self.same(cursors_of(run=run, road=road, rule=rule), [0, 1])
        self.same(lists_of(road=road, run=run, rule=rule), [((0, 0),), ((1, 1),)])
        self.assertIs(is_whole(run=run, rule=rule, road=road), False)
        self.same(listed(code=3, run=run, road=road, rule=rule), [True, True])


class TestLongRuns(ExactCase):

    def test_a_run_of_many_calls(self):
        rule, road = looping()
        for many in (1200, 5001):
            run = [(ZERO, False)] * many
            self.assertIs(is_run(rule, road, run), True)
            self.same(cursors_of(rule, road, run), [index % 2 for index in range(many)])
            self.same(lists_of(rule, road, run), [() if index % 2 else ((0, 0),) for index in range(many)])
            self.assertIs(is_whole(rule, road, run), False)
            self.same(listed(rule, road, run, 31), [index % 2 == 0 for index in range(many)])

    def test_one_step_wrong_in_a_long_run(self):
        rule, road = looping()
        for index in (0, 1, 1000, 2998, 2999):
            for wrong in ((ZERO, True), (ZERO, 0), (ONE, False), [ZERO, False], None):
                run = [(ZERO, False)] * 3000
                run[index] = wrong
                self.assertIs(is_run(rule, road, run), False)
                self.raises(InvalidRun, listed, rule, road, run, 0)

    def test_the_end_within_a_long_run(self):
        rule = looping()[0].with_call(ZERO, 1, ((), None))
        self.assertIs(is_run(rule, full_road([ZERO]), [(ZERO, False)] * 2000), False)

    def test_many_cursors_and_changes(self):
        shapes = [(width,) for width in range(6)]
        rule = Rule(64, {shape: [(((0, 0),), cursor + 1 if cursor < 63 else None) for cursor in range(64)]
                         for shape in shapes})
        run = [(shapes[index * 5 % 6], False) for index in range(64)]
        road = full_road(shapes)
        self.same(cursors_of(rule, road, run), list(range(64)))
        self.same([is_whole(rule, road, run), is_whole(rule, road, run[:63])], [True, False])
        self.assertIs(is_run(rule, road, run + run[:1]), False)
        self.same(listed(rule, road, run, 2), [2 % 2 ** shape[0] == 0 for shape, _ in run])


class TestMismatch(ExactCase):

    def test_a_shape_of_the_road_is_none_of_the_rule(self):
        rule = small_rule()
        good = [(ZERO, False)]
        for road in (Road([ZERO, (2,)], []), Road([ZERO], [(ZERO, DOWN)]), Road([ZERO], [((4,), ONE)]), Road([DOWN], [])):
            for thing in odd_things()[::5] + [good, [], None]:
                self.raises(Mismatch, is_run, rule, road, thing)
                for function in (cursors_of, lists_of, is_whole):
                    self.raises(Mismatch, function, rule, road, thing)
                for code in [0, 31] + WRONG_HASHES:
                    self.raises(Mismatch, listed, rule, road, thing, code)

    def test_further_shapes_of_the_rule_are_no_mismatch(self):
        rule = small_rule()
        road = Road([ZERO], [])
        self.assertIs(is_run(rule, road, [(ZERO, False)]), True)
        self.raises(Mismatch, is_run, rule.with_shapes([ONE]), road, [(ZERO, False)])


class TestErrors(ExactCase):

    def test_invalid_run_ahead_of_invalid_hash(self):
        rule, road = small_rule(), small_road()
        for run in ([], None, [(UP, False)], ((ZERO, False),), [(ZERO, 0)], [(ZERO, False)] * 3, 5, "run", {}):
            for code in [0, 31] + WRONG_HASHES:
                self.raises(InvalidRun, listed, rule, road, run, code)

    def test_invalid_hashes(self):
        rule, road = small_rule(), small_road()
        for run in ([(ZERO, False)], [(ONE, False), (ONE, False)], [(ZERO, False), (UP, True)]):
            for code in WRONG_HASHES + odd_things():
                if not is_one_of(code, range(32)):
                    self.raises(InvalidHash, listed, rule, road, run, code)


if __name__ == "__main__":
    unittest.main()
