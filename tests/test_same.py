"""Rules that do the same, the rows of shapes that tell others apart, and the pairs that show it."""

import itertools
import random
import unittest

from loosecursors.errors import Mismatch
from loosecursors.rules import Rule
from loosecursors.same import apart, do_the_same, is_together, pairs
from tests.helpers import (ExactCase, doubled, draw_call, draw_rule, exact, near, odd_things, renumbered, row_by_hand,
                           shuffled_cursors, with_more_cursors)

ZERO, ONE, TWO, UP, DOWN = (0,), (1,), (2,), (0, 1), (1, 0)
HERE, AWAY = ((0, 0),), ()


def partners(rand, rule):
    """Rules that do the same, and some that may do something else, each with whether it surely does the same."""
    yield rule, True
    yield renumbered(rule, shuffled_cursors(rand, rule.cursors)), True
    yield with_more_cursors(rand, rule, rand.randrange(1, 4)), True
    yield doubled(rand, rule), True
    yield renumbered(doubled(rand, rule), shuffled_cursors(rand, rule.cursors * 2)), True
    for _ in range(3):
        shape, cursor = rand.choice(rule.shapes), rand.randrange(rule.cursors)
        call = draw_call(rand, rule.cursors, shape, rand.choice([0, 0.4, 1]), 0.3)
        other = rule.with_call(shape, cursor, call)
        yield other, False
        yield doubled(rand, other), False
    yield draw_rule(rand, rule.shapes), False


def drawn(seed, many):
    """Tuples (rand, rule, other, surely)."""
    rand = random.Random(seed)
    for _ in range(many):
        rule = draw_rule(rand)
        for other, surely in partners(rand, rule):
            yield rand, rule, other, surely


def pairs_by_hand(rule, other):
    """The pairs of cursors with which calls are made together, in as many rounds as there are pairs."""
    calls, others = rule.calls, other.calls
    found = {(0, 0)}
    for _ in range(rule.cursors * other.cursors):
        for one, two in list(found):
            for shape in calls:
                if calls[shape][one][1] is not None:
                    found.add((calls[shape][one][1], others[shape][two][1]))
    return sorted(found)


def together_by_hand(rule, other, thing):
    if not isinstance(thing, list):
        return False
    known = {exact((one, two)): (one, two) for one in range(rule.cursors) for two in range(other.cursors)}
    texts = [exact(item) for item in thing]
    if len(set(texts)) < len(texts) or exact((0, 0)) not in texts or not set(texts) <= set(known):
        return False
    for shape in rule.shapes:
        for text in texts:
            one, two = rule.call(shape, known[text][0]), other.call(shape, known[text][1])
            if one[0] != two[0] or [one[1], two[1]].count(None) == 1:
                return False
            if one[1] is not None and exact((one[1], two[1])) not in texts:
                return False
    return True


class TestExamples(ExactCase):

    def test_the_example(self):
        self.example("""
>>> from loosecursors.same import apart, do_the_same, is_together, pairs
>>> from loosecursors.rules import Rule
>>> one = Rule(1, {(0,): [(((0, 0),), 0)]})
>>> two = Rule(2, {(0,): [(((0, 0),), 1), (((0, 0),), 0)]})
>>> [do_the_same(one, two), pairs(one, two), apart(one, two.with_call((0,), 1, (((0, 0),), None)))]
[True, [(0, 0), (0, 1)], [(0,), (0,)]]
""")


class TestDrawn(ExactCase):

    def test_apart(self):
        kinds = {None: 0, 1: 0, 2: 0, 3: 0}
        for rand, rule, other, surely in drawn(81, 150):
            wanted = row_by_hand(rule, 0, other, 0)
            kinds[wanted and min(len(wanted), 3)] += 1
            if surely:
                self.assertIsNone(wanted)
            self.same(apart(rule, other), wanted)
            self.same(apart(other, rule), wanted)
            self.assertIs(do_the_same(rule, other), wanted is None)
            self.assertIs(do_the_same(other, rule), wanted is None)
        self.assertGreater(min(kinds.values()), 15, kinds)

    def test_pairs(self):
        for rand, rule, other, surely in drawn(82, 100):
            for one, two in ((rule, other), (other, rule)):
                if row_by_hand(one, 0, two, 0) is not None:
                    self.assertIsNone(pairs(one, two))
                    continue
                found = pairs(one, two)
                self.same(found, pairs_by_hand(one, two))
                self.assertIs(is_together(one, two, found), True)
                rand.shuffle(found)
                self.assertIs(is_together(one, two, found), True)

    def test_together(self):
        counts = {True: 0, False: 0}
        for rand, rule, other, surely in drawn(83, 60):
            everything = [(one, two) for one in range(rule.cursors) for two in range(other.cursors)]
            found = pairs(rule, other) or [(0, 0)]
            things = [everything, everything[::-1], found, found[::-1], found[1:], found[:-1], found + found[:1],
                      found + [rand.choice(everything)], [pair for pair in found if pair != (0, 0)],
                      rand.sample(everything, rand.randrange(len(everything) + 1)), []]
            for thing in things:
                good = together_by_hand(rule, other, thing)
                counts[good] += 1
                self.assertIs(is_together(rule, other, thing), good)
        self.assertGreater(min(counts.values()), 100, counts)

    def test_all_lists_of_pairs(self):
        counts = {True: 0, False: 0}
        for rand, rule, other, surely in drawn(84, 60):
            everything = [(one, two) for one in range(rule.cursors) for two in range(other.cursors)]
            if len(everything) > 6:
                continue
            for size in range(len(everything) + 1):
                for rows in itertools.combinations(everything, size):
                    good = together_by_hand(rule, other, list(rows))
                    counts[good] += 1
                    self.assertIs(is_together(rule, other, list(rows)), good)
                    if good:
                        self.assertIs(do_the_same(rule, other), True)
        self.assertGreater(min(counts.values()), 30, counts)

    def test_a_third_partner_and_others_in_turns(self):
        for rand, rule, other, surely in drawn(85, 60):
            rows = [apart(rule, other), apart(rule, rule), apart(other, rule), apart(rule, other), apart(other, other)]
            wanted = row_by_hand(rule, 0, other, 0)
            self.same(rows, [wanted, None, wanted, wanted, None])


class TestFirst(ExactCase):
    """The first in ascending order of the shortest rows."""

    def test_rules_that_end_at_once_with_other_places(self):
        one = Rule(1, {ONE: [(((0, 0),), None)], ZERO: [(HERE, None)]})
        two = Rule(1, {ONE: [(((0, 1),), None)], ZERO: [(HERE, None)]})
        self.same([apart(one, two), apart(two, one)], [[ONE], [ONE]])
        self.same([pairs(one, two), do_the_same(one, two)], [None, False])
        self.same([pairs(one, one), do_the_same(one, one)], [[(0, 0)], True])

    def test_just_one_ends(self):
        one, two = Rule(1, {ONE: [(HERE, None)]}), Rule(1, {ONE: [(HERE, 0)]})
        self.same([apart(one, two), apart(two, one)], [[ONE], [ONE]])

    def test_other_cursors_are_no_difference(self):
        one = Rule(2, {ONE: [(HERE, 1), (HERE, 1)]})
        two = Rule(2, {ONE: [(HERE, 0), (AWAY, None)]})
        self.same([apart(one, two), pairs(one, two), pairs(two, one)], [None, [(0, 0), (1, 0)], [(0, 0), (0, 1)]])

    def test_the_least_of_the_shortest_rows(self):
        shapes = [ZERO, UP, ONE, DOWN, TWO]
        one = Rule(3, {shape: [(AWAY, 1), (AWAY, 1), (AWAY, 2)] for shape in shapes})
        for last in ([ZERO], [UP, ONE], [ONE], [TWO, DOWN, UP], [DOWN, TWO]):
            for first in ([ONE], [UP, TWO], [ZERO, DOWN, ONE], [TWO]):
                # By way of the first shapes one comes to a cursor that the last ones tell apart.
                two = one
                for shape in first:
                    two = two.with_call(shape, 0, (AWAY, 2))
                for shape in last:
                    two = two.with_call(shape, 2, (HERE, 2))
                self.same(apart(one, two), [min(first), min(last)])
                self.same(apart(two, one), [min(first), min(last)])

    def test_a_shorter_row_comes_ahead_of_a_lesser_one(self):
        one = Rule(2, {ZERO: [(AWAY, 1), (AWAY, 1)], TWO: [(AWAY, 1), (AWAY, 1)]})
        two = one.with_call(ZERO, 1, (HERE, 1)).with_call(TWO, 0, (HERE, 0))
        self.same(apart(one, two), [TWO])
        self.same(apart(one, one.with_call(ZERO, 1, (HERE, 1))), [ZERO, ZERO])

    def test_a_row_stops_at_the_first_end(self):
        one = Rule(2, {ZERO: [(AWAY, None), (AWAY, None)], TWO: [(AWAY, 1), (AWAY, None)]})
        two = one.with_call(ZERO, 1, (HERE, None))
        self.same(apart(one, two), [TWO, ZERO])
        self.same(apart(one.with_call(TWO, 0, (AWAY, None)), two.with_call(TWO, 0, (AWAY, None))), None)
        self.same(pairs(one.with_call(TWO, 0, (AWAY, None)), two.with_call(TWO, 0, (AWAY, None))), [(0, 0)])

    def test_the_order_of_the_dict_means_nothing(self):
        rand = random.Random(86)
        for _ in range(50):
            rule = draw_rule(rand, [ONE, ZERO, DOWN, TWO], 3)
            calls = rule.calls
            for order in itertools.permutations(rule.shapes):
                other = Rule(3, {shape: calls[shape] for shape in order})
                self.assertIs(do_the_same(rule, other), True)
            changed = rule.with_call(ONE, 0, (AWAY, 1)).with_call(DOWN, 1, (AWAY, 2)).calls
            turned = Rule(3, {shape: changed[shape] for shape in reversed(changed)})
            self.same(apart(rule, turned), row_by_hand(rule, 0, turned, 0))

    def test_sixty_four_cursors(self):
        rule = Rule(64, {shape: [(AWAY, cursor + 1) for cursor in range(63)] + [(AWAY, None)] for shape in (ONE, ZERO)})
        other = rule.with_call(ZERO, 63, (HERE, None))
        self.same(apart(rule, other), [ZERO] * 64)
        self.same(apart(rule, rule.with_call(ONE, 63, (HERE, None))), [ZERO] * 63 + [ONE])
        self.same(pairs(rule, rule), [(cursor, cursor) for cursor in range(64)])
        round_64 = Rule(64, {ONE: [(HERE, (cursor + 1) % 64) for cursor in range(64)]})
        round_63 = Rule(63, {ONE: [(HERE, (cursor + 1) % 63) for cursor in range(63)]})
        found = pairs(round_64, round_63)
        self.same(found, [(one, two) for one in range(64) for two in range(63)])
        self.assertIs(is_together(round_64, round_63, found), True)
        self.assertIs(is_together(round_63, round_64, found), False)
        self.assertIs(is_together(round_64, round_63, found[:-1]), False)
        self.same(apart(round_64, round_63.with_call(ONE, 62, (AWAY, None))), [ONE] * 63)

    def test_twelve_shapes(self):
        shapes = [(width,) for width in range(6)] + [(width, width + 1) for width in range(5)] + [(5, 0)]
        rule = Rule(5, {shape: [(HERE, (cursor * 2 + index) % 5) for cursor in range(5)]
                        for index, shape in enumerate(shapes)})
        self.same(apart(rule, doubled(random.Random(1), rule)), None)
        other = rule.with_call((5, 0), 3, (HERE, None))
        self.same(apart(rule, other), row_by_hand(rule, 0, other, 0))


class TestNear(ExactCase):

    def test_what_is_near_the_pairs(self):
        counts = {True: 0, False: 0}
        for rand, rule, other, surely in drawn(87, 14):
            found = pairs(rule, other)
            if found is None or len(found) > 8:
                continue
            for thing in near(found):
                good = together_by_hand(rule, other, thing)
                counts[good] += 1
                self.assertIs(self.untouched(is_together, rule, other, thing), good)
        self.assertGreater(min(counts.values()), 50, counts)

    def test_any_object_gets_a_bool_itself(self):
        one, two = Rule(1, {ONE: [(HERE, 0)]}), Rule(2, {ONE: [(HERE, 1), (HERE, 0)]})
        good = [(0, 0), (0, 1)]
        self.assertIs(is_together(one, two, good), True)
        for thing in odd_things() + [one, two, [one], [(one, two)], [(0, 0), (0, two)]]:
            self.assertIs(self.untouched(is_together, one, two, thing), False)
            for wrong in (good + [thing], [thing] + good, [good[0], thing], [(0, 0), (0, thing)], [(0, 0), (thing, 1)]):
                self.assertIs(is_together(one, two, wrong), together_by_hand(one, two, wrong))

    def test_pairs_that_are_none(self):
        one, two = Rule(1, {ONE: [(HERE, 0)]}), Rule(2, {ONE: [(HERE, 1), (HERE, 0)]})
        for wrong in ([[0, 0], [0, 1]], ((0, 0), (0, 1)), [(0, 0)], [(0, 1)], [(0, 0), (0, 1), (0, 1)],
                      [(0, 0), (0, True)], [(False, False), (0, 1)], [(0, 0), (0, 1), (0, 2)], [(0, 0), (0, 1), (1, 0)],
                      [(0, 0), (0, 1), (0, -1)], [(0, 0), (0, 1), (0,)], [(0, 0), (0, 1), (0, 0, 0)], [(0, 0), (1, 0)],
                      [(0, 0), (0, 1), None], [(0, 0), (0, 1), (0, None)], [0, 0], {(0, 0): 1, (0, 1): 1}, []):
            self.assertIs(is_together(one, two, wrong), False)
        self.assertIs(is_together(one, two, [(0, 1), (0, 0)]), True)
        self.assertIs(is_together(two, one, [(0, 0), (1, 0)]), True)
        self.assertIs(is_together(two, one, [(0, 0), (0, 1)]), False)

    def test_pairs_that_are_not_needed(self):
        rule = Rule(3, {ONE: [(HERE, None), (AWAY, 2), (AWAY, 2)]})
        for more, good in (([], True), ([(1, 1), (2, 2)], True), ([(1, 1)], False), ([(2, 1), (2, 2)], True),
                           ([(0, 1)], False), ([(2, 2)], True), ([(2, 2), (1, 2)], True), ([(1, 0)], False)):
            self.assertIs(is_together(rule, rule, [(0, 0)] + more), good)
            self.assertIs(is_together(rule, rule, more + [(0, 0)]), good)
            self.assertIs(is_together(rule, rule, more), False)


class TestErrors(ExactCase):

    def test_mismatch(self):
        rule = Rule(2, {shape: [(HERE, 1), (AWAY, None)] for shape in (ZERO, ONE, DOWN)})
        others = [rule.with_shapes([ZERO, ONE]), rule.with_shapes([DOWN])]
        for shapes in ((ZERO, ONE, DOWN, TWO), (ZERO, ONE, UP), (ZERO, ONE, TWO), (TWO,)):
            others.append(Rule(2, {shape: [(HERE, 1), (AWAY, None)] for shape in shapes}))
        for other in others:
            for one, two in ((rule, other), (other, rule)):
                for function in (apart, do_the_same, pairs):
                    self.raises(Mismatch, function, one, two)
                for thing in (None, [], [(0, 0)], [(0, 0), (1, 1)], 5):
                    self.raises(Mismatch, is_together, one, two, thing)

    def test_other_numbers_of_cursors_are_no_mismatch(self):
        one, two = Rule(1, {ZERO: [(HERE, None)]}), Rule(64, {ZERO: [(HERE, None)] + [(AWAY, 5)] * 63})
        self.same([apart(one, two), do_the_same(two, one), pairs(one, two)], [None, True, [(0, 0)]])


class TestArguments(ExactCase):

    def test_returned_lists_are_new(self):
        one, two = Rule(1, {ONE: [(HERE, 0)]}), Rule(2, {ONE: [(HERE, 1), (HERE, 0)]})
        self.fresh(pairs, one, two)
        self.fresh(apart, one, two.with_call(ONE, 1, (AWAY, 0)))

    def test_the_rules_are_as_before(self):
        for rand, rule, other, surely in drawn(88, 10):
            before = exact([rule.cursors, rule.calls, other.cursors, other.calls])
            for function in (apart, do_the_same, pairs):
                self.same(function(rule, other), function(rule, other))
            is_together(rule, other, [(0, 0), (1, 1)])
            self.assertEqual(exact([rule.cursors, rule.calls, other.cursors, other.calls]), before)

    def test_by_name_in_another_order(self):
        one, two = Rule(1, {ONE: [(HERE, 0)]}), Rule(2, {ONE: [(HERE, 1), (HERE, 0)]})
        self.same(apart(other=two.with_call(ONE, 1, (AWAY, 0)), rule=one), [ONE, ONE])
        self.assertIs(do_the_same(other=two, rule=one), True)
        self.same(pairs(other=two, rule=one), [(0, 0), (0, 1)])
        self.assertIs(is_together(thing=[(0, 0), (0, 1)], other=two, rule=one), True)


if __name__ == "__main__":
    unittest.main()
