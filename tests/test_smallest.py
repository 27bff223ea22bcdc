"""Smallest rules, and which cursors are told apart."""

import itertools
import random
import unittest

from loosecursors.errors import UnknownCursor
from loosecursors.makers import reversed_bits
from loosecursors.rules import Rule
from loosecursors.same import do_the_same
from loosecursors.smallest import groups, smallest, told_apart
from tests.helpers import (ExactCase, doubled, draw_call, draw_rule, exact, is_one_of, odd_things, renumbered,
                           row_by_hand, shuffled_cursors, with_more_cursors)

ZERO, ONE, TWO, UP, DOWN = (0,), (1,), (2,), (0, 1), (1, 0)
HERE, AWAY = ((0, 0),), ()
WRONG_CURSORS = [-1, True, False, None, "0", "", (0,), [0], [], {}, 10 ** 39, -10 ** 39]


def sparse_rule(rand):
    """A rule whose calls are nearly all the same, so that long rows are needed to tell its cursors apart."""
    return Rule(6, {shape: [draw_call(rand, 6, shape, 0, 0.12) for _ in range(6)]
                    for shape in rand.sample([ZERO, ONE, UP], rand.randrange(1, 3))})


def drawn(seed, many):
    """Tuples (rand, rule): drawn rules, and the same with cursors doubled, more, or in another order."""
    rand = random.Random(seed)
    for _ in range(many):
        yield rand, sparse_rule(rand)
        rule = draw_rule(rand)
        yield rand, rule
        yield rand, renumbered(doubled(rand, rule), shuffled_cursors(rand, rule.cursors * 2))
        yield rand, with_more_cursors(rand, rule, 2)


def text_of(rule):
    return exact([rule.cursors, rule.calls])


def order_of_meeting(rule):
    """The cursors as they are met first: in order of cursors, and for each in order of shapes."""
    found = [0]
    for index in range(rule.cursors):
        for shape in rule.shapes:
            later = rule.call(shape, found[index])[1] if index < len(found) else None
            if later is not None and later not in found:
                found.append(later)
    return found


def smallest_by_hand(rule):
    """The rule of the first cursors of the groups by rows of shapes, as far as they are met."""
    names = [min([other for other in range(rule.cursors) if row_by_hand(rule, cursor, rule, other) is None])
             for cursor in range(rule.cursors)]
    coarse = Rule(rule.cursors, {shape: [(listed, None if later is None else names[later]) for listed, later in row]
                                 for shape, row in rule.calls.items()})
    met = order_of_meeting(coarse)
    calls = {}
    for shape in rule.shapes:
        row = [coarse.call(shape, cursor) for cursor in met]
        calls[shape] = [(listed, None if later is None else met.index(later)) for listed, later in row]
    return Rule(len(met), calls)


class TestExamples(ExactCase):

    def test_the_example(self):
        self.example("""
>>> from loosecursors.smallest import groups, smallest, told_apart
>>> from loosecursors.rules import Rule
>>> rule = Rule(3, {(0,): [(((0, 0),), 2), ((), None), (((0, 0),), 0)]})
>>> [smallest(rule) == Rule(1, {(0,): [(((0, 0),), 0)]}), groups(rule), told_apart(rule, 0, 1)]
[True, [[0, 2], [1]], [(0,)]]
""")


class TestSmallest(ExactCase):

    def test_drawn(self):
        sizes = {}
        for rand, rule in drawn(91, 60):
            found = smallest(rule)
            self.assertEqual(text_of(found), text_of(smallest_by_hand(rule)))
            self.assertIs(do_the_same(rule, found), True)
            sizes[rule.cursors - found.cursors] = sizes.get(rule.cursors - found.cursors, 0) + 1
        for less in range(4):
            self.assertGreater(sizes.get(less, 0), 8, sizes)

    def test_a_smallest_rule_has_no_cursor_too_many(self):
        for rand, rule in drawn(92, 80):
            found = smallest(rule)
            self.same(order_of_meeting(found), list(range(found.cursors)))
            for one, two in itertools.combinations(range(found.cursors), 2):
                self.assertIsNotNone(row_by_hand(found, one, found, two))
            self.assertEqual(text_of(smallest(found)), text_of(found))

    def test_rules_that_do_the_same_have_one_smallest_rule(self):
        rand = random.Random(93)
        for _ in range(80):
            rule = draw_rule(rand)
            wanted = text_of(smallest(rule))
            others = [renumbered(rule, shuffled_cursors(rand, rule.cursors)), doubled(rand, rule),
                      with_more_cursors(rand, rule, 3), doubled(rand, with_more_cursors(rand, rule, 1))]
            for other in others + [renumbered(others[1], shuffled_cursors(rand, rule.cursors * 2))]:
                self.assertEqual(text_of(smallest(other)), wanted)

    def test_no_rule_with_fewer_cursors_does_the_same(self):
        rand = random.Random(94)
        for _ in range(40):
            rule = draw_rule(rand, [ZERO, ONE], 3)
            found = smallest(rule)
            if found.cursors != 2:
                continue
            lists = {shape: {call[0] for call in row} for shape, row in rule.calls.items()}
            for first, last in itertools.product(lists[ZERO], lists[ONE]):
                for ends in itertools.product((0, None), repeat=2):
                    other = Rule(1, {ZERO: [(first, ends[0])], ONE: [(last, ends[1])]})
                    self.assertIs(do_the_same(rule, other), False)

    def test_one_cursor_alone(self):
        for later in (0, None):
            rule = Rule(1, {ONE: [(HERE, later)], ZERO: [(AWAY, None)]})
            self.assertEqual(text_of(smallest(rule)), text_of(rule))
            self.same([groups(rule), told_apart(rule, 0, 0)], [[[0]], None])

    def test_cursors_that_are_never_met(self):
        rule = Rule(4, {ONE: [(HERE, 2), (AWAY, 3), (AWAY, None), (HERE, 1)]})
        self.assertEqual(text_of(smallest(rule)), text_of(Rule(2, {ONE: [(HERE, 1), (AWAY, None)]})))
        self.same(groups(rule), [[0], [1], [2], [3]])

    def test_the_numbers_of_the_cursors(self):
        # From 0 the shapes in ascending order lead to 3, 1 and 3 again, from 3 to 2.
        rule = Rule(4, {
            TWO: [(AWAY, 3), (AWAY, None), (AWAY, None), (AWAY, 2)],
            ZERO: [(AWAY, 3), (HERE, None), (HERE, 0), (AWAY, None)],
            ONE: [(AWAY, 1), (AWAY, None), (AWAY, None), (HERE, None)],
        })
        wanted = Rule(4, {
            ZERO: [(AWAY, 1), (AWAY, None), (HERE, None), (HERE, 0)],
            ONE: [(AWAY, 2), (HERE, None), (AWAY, None), (AWAY, None)],
            TWO: [(AWAY, 1), (AWAY, 3), (AWAY, None), (AWAY, None)],
        })
        self.assertEqual(text_of(smallest(rule)), text_of(wanted))
        self.assertIs(smallest(rule) == wanted, True)

    def test_the_order_of_the_dict_means_nothing(self):
        rand = random.Random(95)
        for _ in range(30):
            calls = draw_rule(rand, [ONE, ZERO, DOWN], 4).calls
            texts = {text_of(smallest(Rule(4, {shape: calls[shape] for shape in order})))
                     for order in itertools.permutations(calls)}
            self.assertEqual(len(texts), 1)

    def test_a_chain_of_sixty_four_cursors(self):
        rule = Rule(64, {shape: [(AWAY, cursor + 1) for cursor in range(63)] + [(AWAY, None)] for shape in (ONE, ZERO)})
        self.assertEqual(text_of(smallest(rule)), text_of(rule))
        self.same(groups(rule), [[cursor] for cursor in range(64)])
        self.same(told_apart(rule, 0, 1), [ZERO] * 63)
        self.same(told_apart(rule, 63, 62), [ZERO])
        rand = random.Random(96)
        turned = renumbered(rule, shuffled_cursors(rand, 64))
        self.assertEqual(text_of(smallest(turned)), text_of(rule))
        round_64 = Rule(64, {ONE: [(HERE, (cursor + 1) % 64) for cursor in range(64)]})
        self.assertEqual(text_of(smallest(round_64)), text_of(Rule(1, {ONE: [(HERE, 0)]})))
        self.same(groups(round_64), [list(range(64))])

    def test_makers_and_twelve_shapes(self):
        shapes = [(width,) for width in range(6)] + [(width, width + 1) for width in range(5)] + [(5, 0)]
        rule = reversed_bits(shapes)
        self.assertEqual(text_of(smallest(rule)), text_of(smallest_by_hand(rule)))
        self.same(groups(rule), [[cursor] for cursor in range(32)])


class TestTold(ExactCase):

    def test_all_pairs_of_cursors(self):
        kinds = {None: 0, 1: 0, 2: 0, 3: 0}
        for rand, rule in drawn(97, 60):
            for cursor in range(rule.cursors):
                for other in range(rule.cursors):
                    wanted = row_by_hand(rule, cursor, rule, other)
                    kinds[wanted and min(len(wanted), 3)] += 1
                    self.same(told_apart(rule, cursor, other), wanted)
        self.assertGreater(min(kinds.values()), 15, kinds)

    def test_groups_beside_told_apart(self):
        for rand, rule in drawn(98, 80):
            found = groups(rule)
            self.same(found, sorted(found))
            self.same(sorted([cursor for row in found for cursor in row]), list(range(rule.cursors)))
            for row in found:
                self.same(row, sorted(row))
            where = {cursor: index for index, row in enumerate(found) for cursor in row}
            for cursor in range(rule.cursors):
                for other in range(rule.cursors):
                    self.assertIs(told_apart(rule, cursor, other) is None, where[cursor] == where[other])

    def test_a_cursor_and_itself(self):
        for rand, rule in drawn(99, 20):
            for cursor in range(rule.cursors):
                self.same(told_apart(rule, cursor, cursor), None)

    def test_the_first_of_the_shortest_rows(self):
        rule = Rule(4, {
            TWO: [(AWAY, 2), (AWAY, 3), (AWAY, 2), (HERE, 3)],
            ONE: [(AWAY, 2), (AWAY, 3), (AWAY, 2), (HERE, 3)],
            UP: [(AWAY, 0), (AWAY, 1), (AWAY, 2), (AWAY, 3)],
        })
        self.same([told_apart(rule, 0, 1), told_apart(rule, 1, 0)], [[ONE, ONE], [ONE, ONE]])
        self.same([told_apart(rule, 2, 3), told_apart(rule, 0, 2)], [[ONE], None])

    def test_unknown_cursors(self):
        rule = Rule(3, {ZERO: [(HERE, 2), (AWAY, None), (HERE, 0)], ONE: [(AWAY, None)] * 3})
        for wrong in WRONG_CURSORS + [3, 4] + odd_things():
            if is_one_of(wrong, range(3)):
                continue
            for cursor in range(3):
                self.raises(UnknownCursor, told_apart, rule, wrong, cursor)
                self.raises(UnknownCursor, told_apart, rule, cursor, wrong)
            self.raises(UnknownCursor, told_apart, rule, wrong, wrong)

    def test_the_number_of_cursors_is_none(self):
        for many in (1, 2, 64):
            rule = Rule(many, {ZERO: [(HERE, None)] * many})
            self.same(told_apart(rule, many - 1, 0), None)
            self.raises(UnknownCursor, told_apart, rule, many, 0)
            self.raises(UnknownCursor, told_apart, rule, 0, many)
            self.raises(UnknownCursor, told_apart, rule, many, many)


class TestArguments(ExactCase):

    def test_returned_lists_are_new(self):
        rule = Rule(3, {ZERO: [(HERE, 2), (AWAY, None), (HERE, 0)]})
        self.fresh(groups, rule)
        self.fresh(told_apart, rule, 0, 1)
        rows = groups(rule)
        self.assertEqual(len({id(row) for row in rows}), len(rows))

    def test_the_rule_is_as_before(self):
        for rand, rule in drawn(100, 10):
            before = text_of(rule)
            self.assertEqual(text_of(smallest(rule)), text_of(smallest(rule)))
            self.same(groups(rule), groups(rule))
            self.same(told_apart(rule, 0, rule.cursors - 1), told_apart(rule, 0, rule.cursors - 1))
            self.assertEqual(text_of(rule), before)

    def test_by_name_in_another_order(self):
        rule = Rule(3, {ZERO: [(HERE, 2), (AWAY, None), (HERE, 0)]})
        self.same(smallest(rule=rule).cursors, 1)
        self.same(told_apart(other=1, cursor=0, rule=rule), [ZERO])
        self.same(groups(rule=rule), [[0, 2], [1]])


if __name__ == "__main__":
    unittest.main()
