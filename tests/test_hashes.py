"""All hashes at once: which ones are alike, and what is said of each."""

import random
import unittest

from loosecursors.errors import Mismatch
from loosecursors.hashes import alike_hashes, first_missed, verdicts
from loosecursors.missed import missed_run
from loosecursors.roads import Road, full_road
from loosecursors.rules import Rule
from loosecursors.texts import parse_rule
from loosecursors.times import most_times
from tests.helpers import SHAPES, ExactCase, World, draw, draw_road, exact, moves, spoil_all

ZERO, ONE, TWO, UP, DOWN = (0,), (1,), (2,), (0, 1), (1, 0)


def small_rule():
    return parse_rule("cursors 2\nshape 0\ncall 0.0 end\ncall end\nshape 1\ncall 0.0 next 1\ncall 0.1 end")


def seen_places(road, code):
    """The text of all places at which a key with a hash can be."""
    return exact([(shape, moved, code % 2 ** shape[int(moved)]) for shape in road.shapes for moved in moves(shape)])


def alike_by_hand(road):
    """Each hash goes to the first row with the same places."""
    rows = []
    for code in range(32):
        for row in rows:
            if seen_places(road, row[0]) == seen_places(road, code):
                row.append(code)
                break
        else:
            rows.append([code])
    return rows


class TestExamples(ExactCase):

    def test_the_example(self):
        self.example("""
>>> from loosecursors.hashes import alike_hashes, first_missed, verdicts
>>> from loosecursors.roads import Road, full_road
>>> from loosecursors.texts import parse_rule
>>> rule = parse_rule('cursors 2\\nshape 0\\ncall 0.0 end\\ncall end\\nshape 1\\ncall 0.0 next 1\\ncall 0.1 end')
>>> [len(alike_hashes(Road([(1,)], []))), alike_hashes(Road([(4, 3)], []))[1], first_missed(rule, full_road([(0,), (1,)]))]
[2, [1, 17], (1, [((1,), False), ((0,), False)])]
>>> [verdicts(rule, full_road([(0,), (1,)]))[code] for code in (0, 1)]
[(False, 1), (True, 1)]
""")


class TestAlike(ExactCase):

    def test_roads_of_one_shape(self):
        for shape in SHAPES:
            road = Road([shape], [])
            many = 2 ** max(shape)
            self.same(alike_hashes(road), [[code for code in range(32) if code % many == row] for row in range(many)])

    def test_all_alike_and_none(self):
        self.same(alike_hashes(Road([ZERO], [])), [list(range(32))])
        self.same(alike_hashes(full_road([ZERO, (5,)])), [[code] for code in range(32)])
        self.same(alike_hashes(Road([(5, 0)], [])), [[code] for code in range(32)])
        self.same(alike_hashes(Road([(0, 5)], [])), [[code] for code in range(32)])

    def test_drawn_roads(self):
        rand = random.Random(71)
        for _ in range(200):
            road = draw_road(rand, rand.sample(SHAPES, rand.randrange(1, 7)))
            self.same(alike_hashes(road), alike_by_hand(road))

    def test_shapes_of_the_changes_count(self):
        self.same(len(alike_hashes(Road([ZERO], [(ZERO, (0, 3))]))), 8)
        self.same(len(alike_hashes(Road([ZERO], [((4,), ZERO)]))), 16)

    def test_twelve_shapes(self):
        road = full_road([(width,) for width in range(6)] + [(width + 1, width) for width in range(5)] + [(0, 5)])
        self.same(alike_hashes(road), [[code] for code in range(32)])


class TestVerdicts(ExactCase):

    def check(self, rule, road):
        world = World(rule, road)
        found = verdicts(rule, road)
        self.same(list(found), list(range(32)))
        for code in range(32):
            self.same(found[code], (world.missed(code) is not None, world.most(code)))
        return found

    def test_drawn(self):
        kinds = {}
        for rand, rule, road in draw(72, 60):
            for verdict in self.check(rule, road).values():
                kinds[verdict] = kinds.get(verdict, 0) + 1
        for kind in ((False, None), (True, None), (False, 0), (True, 0), (False, 1), (True, 1)):
            self.assertGreater(kinds.get(kind, 0), 20, kinds)

    def test_beside_missed_run_and_most_times(self):
        for rand, rule, road in draw(73, 60):
            found = verdicts(rule, road)
            for code in range(32):
                most = most_times(rule, road, code)
                self.same(found[code], (missed_run(rule, road, code) is not None, most and most[0]))

    def test_no_greatest_number(self):
        rule = Rule(1, {ONE: [(((0, 1),), 0)]})
        self.same(verdicts(rule, full_road([ONE])), {code: (False, None if code % 2 else 0) for code in range(32)})

    def test_ordinary_roads(self):
        rule = Rule(2, {
            ONE: [(((0, 0),), 1), (((0, 1),), None)],
            (1, 2): [(((0, 0), (1, 0), (1, 2)), 1), (((0, 1), (1, 1)), None)],
            TWO: [(((0, 0), (0, 2)), 1), (((0, 1),), None)],
        })
        for road in (Road([ONE], []), Road([TWO], []), Road([(1, 2)], []), full_road([ONE, TWO]),
                     Road([ONE], [(ONE, (1, 2)), ((1, 2), TWO)])):
            self.check(rule, road)
        self.same(verdicts(rule, Road([ONE], [])), {code: (False, 1) for code in range(32)})
        self.same(verdicts(rule, Road([TWO], [])), {code: (code % 4 == 3, int(code % 4 != 3)) for code in range(32)})


class TestFirstMissed(ExactCase):

    def test_drawn(self):
        kinds = {None: 0, "0": 0, "more": 0}
        for rand, rule, road in draw(74, 150):
            world = World(rule, road)
            runs = [(len(world.missed(code)), code) for code in range(32) if world.missed(code) is not None]
            found = first_missed(rule, road)
            if not runs:
                kinds[None] += 1
                self.assertIsNone(found)
            else:
                code = min(runs)[1]
                kinds["more" if code else "0"] += 1
                self.same(found, (code, world.missed(code)))
        self.assertGreater(min(kinds.values()), 10, kinds)

    def test_several_are_missed_with_as_few_calls(self):
        rule = Rule(1, {TWO: [(((0, 0), (0, 2)), None)]})
        self.same(first_missed(rule, full_road([TWO])), (1, [(TWO, False)]))
        rule = Rule(1, {TWO: [(((0, 0), (0, 1)), None)]})
        self.same(first_missed(rule, full_road([TWO])), (2, [(TWO, False)]))
        self.same(first_missed(Rule(1, {TWO: [((), None)]}), full_road([TWO])), (0, [(TWO, False)]))

    def test_the_least_hash_has_a_longer_run(self):
        rule = Rule(2, {ZERO: [(((0, 0),), None), ((), None)], TWO: [(((0, 3),), 1), ((), None)],
                        (5,): [(tuple([(0, number) for number in range(31)]), None), ((), None)]})
        self.same(first_missed(rule, full_road([ZERO, TWO])), (0, [(TWO, False), (ZERO, False)]))
        self.same(first_missed(rule, full_road([ZERO, TWO, (5,)])), (31, [((5,), False)]))
        rule = Rule(3, {TWO: [(((0, 0), (0, 3)), 1), (((0, 1), (0, 3)), 2), (((0, 2), (0, 3)), None)]})
        self.same(first_missed(rule, full_road([TWO])), None)
        rule = Rule(2, {ZERO: [((), 1), ((), None)], (0, 5): [(((0, 0), (1, 0), (1, 1), (1, 2)), None), ((), None)]})
        self.same(first_missed(rule, full_road([ZERO, (0, 5)])), (3, [((0, 5), True)]))
        self.same(missed_run(rule, full_road([ZERO, (0, 5)]), 0), [(ZERO, False), (ZERO, False)])

    def test_none_is_missed(self):
        rule = Rule(1, {ONE: [(((0, 0), (0, 1)), None)], ZERO: [((), 0)]})
        for road in (full_road([ONE]), full_road([ONE, ZERO]), full_road([ZERO])):
            self.same(first_missed(rule, road), None)


class TestErrors(ExactCase):

    def test_mismatch(self):
        rule = small_rule()
        for road in (full_road([ZERO, TWO]), Road([ZERO], [(ZERO, DOWN)]), Road([UP], []), Road([ZERO], [(TWO, ZERO)])):
            self.raises(Mismatch, verdicts, rule, road)
            self.raises(Mismatch, first_missed, rule, road)


class TestArguments(ExactCase):

    def test_returned_lists_and_dicts_are_new(self):
        rule, road = small_rule(), full_road([ZERO, ONE])
        self.fresh(alike_hashes, road)
        self.fresh(verdicts, rule, road)
        first = first_missed(rule, road)
        spoil_all(first[1])
        self.same(first_missed(rule, road), (1, [(ONE, False), (ZERO, False)]))
        rows = alike_hashes(road)
        self.assertEqual(len({id(row) for row in rows}), len(rows))

    def test_the_rule_and_the_road_are_as_before(self):
        for rand, rule, road in draw(75, 20):
            before = exact([rule.cursors, rule.calls, road.begin, road.changes])
            self.same(verdicts(rule, road), verdicts(rule, road))
            self.same(first_missed(rule, road), first_missed(rule, road))
            self.same(alike_hashes(road), alike_hashes(road))
            self.assertEqual(exact([rule.cursors, rule.calls, road.begin, road.changes]), before)

    def test_by_name_in_another_order(self):
        rule, road = small_rule(), full_road([ZERO, ONE])
        self.same(alike_hashes(road=road), [list(range(0, 32, 2)), list(range(1, 32, 2))])
        self.same(verdicts(road=road, rule=rule)[3], (True, 1))
        self.same(first_missed(road=road, rule=rule)[0], 1)


if __name__ == "__main__":
    unittest.main()
