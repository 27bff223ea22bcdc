"""Roads: which ones there are, what they tell, and the roads that are made of them."""

import itertools
import unittest

from loosecursors.errors import InvalidRoad, UnknownChange, UnknownShape
from loosecursors.roads import Road, full_road
from loosecursors.rules import Rule
from tests.helpers import SHAPES, ExactCase, is_one_of, near, odd_things

ZERO, ONE, UP, DOWN, TWO = (0,), (1,), (0, 1), (1, 0), (2,)
BEGIN = [ONE, ZERO]
CHANGES = [(UP, ONE), (ZERO, UP), (ONE, DOWN), (DOWN, ZERO), (ONE, ZERO)]


def small_road():
    return Road(list(BEGIN), list(CHANGES))


def shapes_by_hand(thing):
    """Whether a thing is a list of one or more different shapes."""
    if not isinstance(thing, list) or not thing:
        return False
    return all([is_one_of(shape, SHAPES) for shape in thing]) and len({repr(shape) for shape in thing}) == len(thing)


def change_by_hand(thing):
    """Whether a thing is a change: it is written as the one that is put together from its parts."""
    if not isinstance(thing, tuple) or len(thing) != 2 or not all([is_one_of(part, SHAPES) for part in thing]):
        return False
    return repr(thing[0]) != repr(thing[1])


def changes_by_hand(thing):
    """Whether a thing is a list of different changes."""
    if not isinstance(thing, list) or not all([change_by_hand(change) for change in thing]):
        return False
    return len({repr(change) for change in thing}) == len(thing)


def wrong_changes():
    """Things that are no change, whatever the road is."""
    wrong = [(ZERO, ZERO), (UP, UP), [ZERO, ONE], (ZERO,), (ZERO, ONE, TWO), (ZERO, (6,)), ((6,), ZERO), (ZERO, (1, 1)),
             ((True,), ZERO), (ONE, (False,)), (ZERO, [1]), ([0], ONE), (0, 1), ((0,), 1), (0, (1,)), ZERO, None, "01"]
    return wrong + [thing for thing in odd_things() + list(near((ZERO, ONE))) if not change_by_hand(thing)]


class TestExamples(ExactCase):

    def test_the_example(self):
        self.example("""
>>> from loosecursors.roads import Road, full_road
>>> road = Road([(0,)], [((0,), (0, 1)), ((0, 1), (1,))])
>>> [road.shapes, road.behind((0, 1)), road.without([((0, 1), (1,))]).shapes, len(full_road([(0,), (1,), (2,)]).changes)]
[[(0,), (0, 1), (1,)], [(0, 1), (1,)], [(0,), (0, 1)], 6]
""")


class TestMade(ExactCase):

    def test_an_ordinary_road(self):
        road = small_road()
        self.same(road.begin, [ZERO, ONE])
        self.same(road.changes, [(ZERO, UP), (UP, ONE), (ONE, ZERO), (ONE, DOWN), (DOWN, ZERO)])
        self.same(road.shapes, [ZERO, UP, ONE, DOWN])

    def test_one_shape_alone(self):
        for shape in SHAPES:
            road = Road([shape], [])
            self.same([road.begin, road.changes, road.shapes, road.behind(shape)], [[shape], [], [shape], [shape]])

    def test_shapes_of_changes_alone(self):
        road = Road([TWO], [(ONE, ZERO)])
        self.same([road.begin, road.shapes], [[TWO], [ZERO, ONE, TWO]])
        self.same([road.behind(TWO), road.behind(ONE), road.behind(ZERO)], [[TWO], [ZERO, ONE], [ZERO]])

    def test_a_change_there_and_back(self):
        road = Road([ZERO], [(ONE, ZERO), (ZERO, ONE)])
        self.same(road.changes, [(ZERO, ONE), (ONE, ZERO)])

    def test_what_may_follow(self):
        road = small_road()
        found = [road.behind(shape) for shape in (ZERO, UP, ONE, DOWN)]
        self.same(found, [[ZERO, UP], [UP, ONE], [ZERO, ONE, DOWN], [ZERO, DOWN]])

    def test_what_may_follow_is_ascending_with_itself_among_it(self):
        road = Road([ONE], [(ONE, TWO), (ONE, (3,)), (ONE, ZERO), (ONE, DOWN), (ZERO, (4,)), ((5,), ONE)])
        self.same(road.behind(ONE), [ZERO, ONE, DOWN, TWO, (3,)])

    def test_the_order_of_the_lists_means_nothing(self):
        for changes in itertools.permutations(CHANGES):
            road = Road(BEGIN[::-1], list(changes))
            self.same([road.begin, road.changes, road.shapes],
                      [small_road().begin, small_road().changes, small_road().shapes])
            self.assertIs(road == small_road(), True)

    def test_by_name_in_another_order(self):
        road = Road(changes=list(CHANGES), begin=list(BEGIN))
        self.assertIs(road == small_road(), True)
        self.same(road.behind(shape=UP), [UP, ONE])
        self.same(road.without(changes=[(ZERO, UP)]).behind(ZERO), [ZERO])
        self.same(road.with_change(change=(ZERO, TWO)).behind(ZERO), [ZERO, UP, TWO])
        self.same(full_road(shapes=[ONE, ZERO]).begin, [ZERO, ONE])

    def test_what_was_passed_is_as_before(self):
        begin, changes = list(BEGIN), list(CHANGES)
        self.untouched(lambda first, second: Road(first, second).changes, begin, changes)
        self.same([begin, changes], [BEGIN, CHANGES])


class TestCopies(ExactCase):

    def test_the_lists_are_copied(self):
        begin, changes = list(BEGIN), list(CHANGES)
        road = Road(begin, changes)
        begin.append(TWO)
        begin.remove(ZERO)
        changes.clear()
        self.assertIs(road == small_road(), True)
        self.same([road.begin, road.changes, road.shapes],
                  [small_road().begin, small_road().changes, small_road().shapes])

    def test_what_is_returned_is_new(self):
        road = small_road()
        self.fresh(lambda: road.begin)
        self.fresh(lambda: road.changes)
        self.fresh(lambda: road.shapes)
        self.fresh(lambda: Road([ZERO], []).shapes)
        for shape in road.shapes:
            self.fresh(road.behind, shape)
        self.assertIs(road == small_road(), True)

    def test_begin_and_shapes_are_lists_of_their_own(self):
        road = Road([ZERO], [])
        road.begin.append(ONE)
        road.shapes.append(TWO)
        self.same([road.begin, road.shapes, road.changes], [[ZERO], [ZERO], []])

    def test_the_lists_of_a_full_road_are_copied(self):
        shapes = [ONE, ZERO]
        road = full_road(shapes)
        shapes.append(TWO)
        self.same([road.begin, road.shapes], [[ZERO, ONE], [ZERO, ONE]])

    def test_the_lists_of_another_road(self):
        road = small_road()
        other = road.without([])
        other.begin.clear()
        other.changes.clear()
        self.assertIs(other == road, True)
        self.same(road.changes, sorted(CHANGES))


class TestNoRoads(ExactCase):

    def test_nothing_to_begin_with(self):
        self.raises(InvalidRoad, Road, [], [])
        self.raises(InvalidRoad, Road, [], [(ZERO, ONE)])

    def test_begin_that_is_none(self):
        for begin in odd_things() + list(near(BEGIN)) + [small_road()]:
            if shapes_by_hand(begin):
                self.same(Road(begin, []).begin, sorted(begin))
            else:
                self.raises(InvalidRoad, Road, begin, [])
                self.raises(InvalidRoad, Road, begin, list(CHANGES))

    def test_a_shape_twice(self):
        self.raises(InvalidRoad, Road, [ZERO, ZERO], [])
        self.raises(InvalidRoad, Road, [ZERO, ONE, ZERO], [])
        self.raises(InvalidRoad, Road, [(0, 1), (0, 1)], [])

    def test_widths_that_are_no_shape(self):
        for shape in [(6,), (-1,), (True,), (1, 1), (0, 6), (), (0, 1, 2), [0], 0, None, "0"]:
            self.raises(InvalidRoad, Road, [shape], [])
            self.raises(InvalidRoad, Road, [ZERO, shape], [])
            self.raises(InvalidRoad, Road, [ZERO], [(shape, TWO)])
            self.raises(InvalidRoad, Road, [ZERO], [(ZERO, ONE), (TWO, shape)])

    def test_a_change_twice(self):
        self.raises(InvalidRoad, Road, [ZERO], [(ZERO, ONE), (ZERO, ONE)])
        self.raises(InvalidRoad, Road, [ZERO], [(ZERO, ONE), (ONE, ZERO), (ZERO, ONE)])

    def test_a_change_of_a_shape_to_itself(self):
        for shape in SHAPES:
            self.raises(InvalidRoad, Road, [shape], [(shape, shape)])
            self.raises(InvalidRoad, Road, [ZERO], [(ZERO, ONE), (shape, shape)])

    def test_lists_in_place_of_tuples_and_the_other_way_round(self):
        for begin in ((ZERO,), ([0],), [[0]], ZERO, {ZERO: True}):
            self.raises(InvalidRoad, Road, begin, [])
        for changes in (((ZERO, ONE),), (), [[ZERO, ONE]], [([0], ONE)], [(ZERO, [1])], (ZERO, ONE), {(ZERO, ONE): 5}):
            self.raises(InvalidRoad, Road, [ZERO], changes)

    def test_changes_that_are_none(self):
        for changes in odd_things() + list(near(CHANGES)) + [small_road()]:
            if changes_by_hand(changes):
                self.same(Road([ZERO], changes).changes, sorted(changes))
            else:
                self.raises(InvalidRoad, Road, [ZERO], changes)
        for change in wrong_changes():
            self.raises(InvalidRoad, Road, [ZERO], [change])
            self.raises(InvalidRoad, Road, [ZERO], [(ZERO, ONE), change])

    def test_both_wrong(self):
        for begin in ([], None, (ZERO,), [ZERO, ZERO]):
            for changes in (None, (), [(ZERO, ZERO)], [[ZERO, ONE]]):
                self.raises(InvalidRoad, Road, begin, changes)


class TestBehind(ExactCase):

    def test_unknown_shapes(self):
        road = small_road()
        unknown = [TWO, (2, 0), (0, 2), (True,), (False,), (False, True), (True, False), [0], (0, 0), "0", None, road]
        for shape in unknown + odd_things():
            if not is_one_of(shape, road.shapes):
                self.raises(UnknownShape, road.behind, shape)

    def test_asking_again_gives_the_same(self):
        road = small_road()
        for shape in road.shapes:
            self.untouched(road.behind, shape)


class TestWithout(ExactCase):

    def test_some_of_the_changes(self):
        road = small_road()
        for size in range(len(CHANGES) + 1):
            for gone in itertools.permutations(CHANGES, size):
                rest = road.without(list(gone))
                self.assertIsInstance(rest, Road)
                self.same(rest.begin, [ZERO, ONE])
                self.same(rest.changes, [change for change in sorted(CHANGES) if change not in gone])
                shapes = {ZERO, ONE} | {shape for change in rest.changes for shape in change}
                self.same(rest.shapes, sorted(shapes))
        self.assertIs(road == small_road(), True)

    def test_what_was_passed_is_as_before(self):
        road = small_road()
        self.untouched(lambda changes: road.without(changes).changes, [(UP, ONE), (ZERO, UP)])
        self.untouched(lambda change: road.with_change(change).changes, (ZERO, TWO))

    def test_an_empty_list(self):
        self.assertIs(small_road().without([]) == small_road(), True)
        self.same(Road([ZERO], []).without([]).shapes, [ZERO])

    def test_a_shape_is_gone_with_its_last_change(self):
        road = Road([ZERO], [(ZERO, UP), (UP, ONE), (ONE, UP)])
        self.same(road.without([(UP, ONE)]).shapes, [ZERO, UP, ONE])
        rest = road.without([(UP, ONE), (ONE, UP)])
        self.same(rest.shapes, [ZERO, UP])
        self.raises(UnknownShape, rest.behind, ONE)
        self.same(rest.without([(ZERO, UP)]).shapes, [ZERO])

    def test_a_shape_to_begin_with_stays(self):
        road = Road([ZERO, ONE], [(ZERO, ONE)]).without([(ZERO, ONE)])
        self.same([road.begin, road.shapes, road.changes, road.behind(ZERO)], [[ZERO, ONE], [ZERO, ONE], [], [ZERO]])

    def test_wrong_lists(self):
        road = small_road()
        known = (ZERO, UP)
        wrong = [[known, known], [known, (UP, ONE), known], (known,), (), known, None, {known: True}, {}, "", [[ZERO, UP]],
                 [list(known)], [known, None], [(UP, ZERO)], [known, (UP, ZERO)], [((False,), UP)], [(ZERO, (0, True))],
                 [(ZERO, ZERO)], [ZERO], [(TWO, ZERO)], [[known]], road]
        for changes in wrong:
            self.raises(UnknownChange, road.without, changes)
        for changes in odd_things() + list(near([known, (ONE, ZERO)])):
            if changes_by_hand(changes) and all([is_one_of(change, road.changes) for change in changes]):
                self.same(road.without(changes).changes, [item for item in road.changes if item not in changes])
            else:
                self.raises(UnknownChange, road.without, changes)
        self.assertIs(road == small_road(), True)

    def test_a_change_that_was_taken_away_is_unknown(self):
        rest = small_road().without([(ZERO, UP)])
        self.raises(UnknownChange, rest.without, [(ZERO, UP)])


class TestWithChange(ExactCase):

    def test_a_further_change(self):
        road = small_road()
        for shape, other in itertools.permutations(SHAPES, 2):
            if (shape, other) not in CHANGES:
                more = road.with_change((shape, other))
                self.assertIsInstance(more, Road)
                self.same(more.changes, sorted(CHANGES + [(shape, other)]))
                self.same(more.begin, [ZERO, ONE])
                self.same(more.shapes, sorted({ZERO, UP, ONE, DOWN, shape, other}))
                self.assertIs(more.without([(shape, other)]) == road, True)
        self.assertIs(road == small_road(), True)

    def test_a_change_put_back(self):
        for change in CHANGES:
            self.assertIs(small_road().without([change]).with_change(change) == small_road(), True)

    def test_a_change_that_the_road_has(self):
        for change in CHANGES:
            self.raises(InvalidRoad, small_road().with_change, change)

    def test_what_is_no_change(self):
        road = small_road()
        for change in wrong_changes() + [road, [(ZERO, TWO)], ((ZERO, TWO),)]:
            self.raises(InvalidRoad, road.with_change, change)
        self.assertIs(road == small_road(), True)


class TestFullRoad(ExactCase):

    def test_full_roads(self):
        for size in range(1, 5):
            for shapes in itertools.permutations((ZERO, ONE, UP, DOWN, (5, 4)), size):
                road = full_road(list(shapes))
                self.assertIsInstance(road, Road)
                self.same([road.begin, road.shapes], [sorted(shapes), sorted(shapes)])
                self.same(road.changes, sorted(itertools.permutations(shapes, 2)))
                self.same([road.behind(shape) for shape in shapes], [sorted(shapes)] * size)

    def test_one_shape_and_twelve(self):
        self.assertIs(full_road([UP]) == Road([UP], []), True)
        road = full_road(SHAPES[:12])
        self.same([len(road.begin), len(road.changes)], [12, 132])

    def test_wrong_lists(self):
        wrong = [[], [ZERO, ZERO], (ZERO,), (ZERO, ONE), [(6,)], [ZERO, (6,)], [[0]], [(True,)], ZERO, None, {ZERO: 1},
                 "0", [ZERO, ONE, ZERO], small_road()]
        for shapes in wrong:
            self.raises(InvalidRoad, full_road, shapes)
        for shapes in odd_things() + list(near([ZERO, ONE, (1, 5)])):
            if shapes_by_hand(shapes):
                self.same(full_road(shapes).begin, sorted(shapes))
            else:
                self.raises(InvalidRoad, full_road, shapes)

    def test_what_was_passed_is_as_before(self):
        self.untouched(lambda shapes: full_road(shapes).changes, [DOWN, ZERO, ONE])


class TestEqual(ExactCase):

    def test_equal_roads(self):
        road = small_road()
        self.assertIs(road == road, True)
        self.assertIs(road == small_road(), True)
        self.assertIs(road != small_road(), False)
        self.assertIs(road == Road(road.begin, road.changes), True)

    def test_roads_that_are_not_equal(self):
        road = small_road()
        others = [road.without([change]) for change in CHANGES] + [road.with_change((ZERO, TWO))]
        others += [Road([ZERO], CHANGES), Road([ONE], CHANGES), Road([ZERO, ONE, UP], CHANGES), Road([ZERO, ONE], [])]
        for other in others:
            self.assertIs(road == other, False)
            self.assertIs(other == road, False)
            self.assertIs(road != other, True)

    def test_the_same_shapes_but_another_begin_or_changes(self):
        first, second = Road([ZERO], [(ZERO, ONE)]), Road([ONE], [(ZERO, ONE)])
        self.same(first.shapes, second.shapes)
        self.assertIs(first == second, False)
        self.assertIs(first == Road([ZERO], [(ONE, ZERO)]), False)

    def test_other_objects(self):
        road = small_road()
        rule = Rule(1, {shape: [((), None)] for shape in road.shapes})
        for thing in odd_things() + [list(BEGIN), (BEGIN, CHANGES), [road], rule]:
            self.assertIs(road == thing, False)
            self.assertIs(thing == road, False)
            self.assertIs(road != thing, True)


if __name__ == "__main__":
    unittest.main()
