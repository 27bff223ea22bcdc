"""Rules: which ones there are, what they tell, and the rules that are made of them."""

import unittest

from loosecursors.errors import InvalidCall, InvalidRule, UnknownCursor, UnknownShape
from loosecursors.rules import Rule
from tests.helpers import SHAPES, ExactCase, is_one_of, near, odd_things

FIRST, SECOND, BOTH = (0,), (1,), (1, 0)


def small_calls():
    return {
        BOTH: [(((0, 0), (1, 0)), 1), (((0, 1),), None)],
        FIRST: [(((0, 0),), None), ((), 0)],
        SECOND: [(((0, 0),), 1), (((0, 0), (0, 1)), 1)],
    }


def small_rule():
    return Rule(2, small_calls())


def places_by_hand(shape):
    return [(table, number) for table in range(len(shape)) for number in range(2 ** shape[table])]


def call_by_hand(cursors, shape, thing):
    """Whether a thing is a call: it is written as the one that is put together from its parts."""
    if not isinstance(thing, tuple) or len(thing) != 2 or not isinstance(thing[0], tuple):
        return False
    chosen = tuple([place for place in places_by_hand(shape) if is_one_of(place, thing[0])])
    return any([is_one_of(thing, [(chosen, later)]) for later in [None] + list(range(cursors))])


def rule_by_hand(cursors, calls):
    if not is_one_of(cursors, range(1, 65)) or not isinstance(calls, dict) or not calls:
        return False
    for shape, rows in calls.items():
        if not is_one_of(shape, SHAPES) or not isinstance(rows, list) or len(rows) != cursors:
            return False
        if not all([call_by_hand(cursors, shape, call) for call in rows]):
            return False
    return True


class TestExamples(ExactCase):

    def test_the_example(self):
        self.example("""
>>> from loosecursors.rules import Rule
>>> rule = Rule(2, {(1,): [(((0, 0),), 1), (((0, 1),), None)], (0,): [(((0, 0),), None), ((), None)]})
>>> [rule.cursors, rule.shapes, rule.call((1,), 0), rule.with_call((0,), 1, (((0, 0),), None)).call((0,), 1)]
[2, [(0,), (1,)], (((0, 0),), 1), (((0, 0),), None)]
>>> Rule(1, {(0,): [(((0, 1),), None)]})
raises InvalidRule
""")


class TestMade(ExactCase):

    def test_an_ordinary_rule(self):
        rule = small_rule()
        self.same(rule.cursors, 2)
        self.same(rule.shapes, [FIRST, SECOND, BOTH])
        self.same(rule.calls, {shape: small_calls()[shape] for shape in (FIRST, SECOND, BOTH)})
        for shape, rows in small_calls().items():
            self.same([rule.call(shape, cursor) for cursor in (0, 1)], rows)

    def test_one_cursor(self):
        rule = Rule(1, {FIRST: [((), 0)]})
        self.same([rule.cursors, rule.shapes, rule.calls], [1, [FIRST], {FIRST: [((), 0)]}])

    def test_sixty_four_cursors(self):
        rows = [(((0, 0),), cursor + 1 if cursor < 63 else None) for cursor in range(64)]
        rule = Rule(64, {FIRST: rows, SECOND: rows[::-1]})
        self.same(rule.cursors, 64)
        self.same(rule.calls, {FIRST: rows, SECOND: rows[::-1]})
        self.same([rule.call(FIRST, 63), rule.call(SECOND, 63)], [(((0, 0),), None), (((0, 0),), 1)])

    def test_the_greatest_tables(self):
        calls = {shape: [(tuple(places_by_hand(shape)), 63)] * 64 for shape in [(4, 5), (5,), (5, 4), (4,)]}
        rule = Rule(64, calls)
        self.same(rule.shapes, [(4,), (4, 5), (5,), (5, 4)])
        self.same(rule.call((5, 4), 63)[0][-1], (1, 15))
        self.same(rule.call((4, 5), 0)[0][-1], (1, 31))

    def test_each_shape_and_twelve_of_them(self):
        for shape in SHAPES:
            self.same(Rule(1, {shape: [(tuple(places_by_hand(shape)), 0)]}).shapes, [shape])
        self.same(Rule(1, {shape: [((), None)] for shape in SHAPES[11::-1]}).shapes, SHAPES[:12])

    def test_the_order_of_the_dict_means_nothing(self):
        calls = small_calls()
        for order in ((FIRST, SECOND, BOTH), (BOTH, SECOND, FIRST), (SECOND, BOTH, FIRST)):
            rule = Rule(2, {shape: calls[shape] for shape in order})
            self.same(rule.shapes, [FIRST, SECOND, BOTH])
            self.same(list(rule.calls), [FIRST, SECOND, BOTH])
            self.assertIs(rule == small_rule(), True)

    def test_by_name_in_another_order(self):
        rule = Rule(calls=small_calls(), cursors=2)
        self.assertIs(rule == small_rule(), True)
        self.same(rule.call(cursor=1, shape=FIRST), ((), 0))
        changed = rule.with_call(call=((), None), cursor=0, shape=SECOND)
        self.same(changed.call(SECOND, 0), ((), None))
        self.same(rule.with_shapes(shapes=[BOTH]).shapes, [BOTH])

    def test_what_was_passed_is_as_before(self):
        calls = small_calls()
        self.untouched(lambda cursors, given: Rule(cursors, given).calls, 2, calls)
        self.same(calls, small_calls())


class TestCopies(ExactCase):

    def test_the_dict_and_its_lists_are_copied(self):
        calls = small_calls()
        rule = Rule(2, calls)
        calls[FIRST][0] = ((), None)
        calls[FIRST].append("more")
        del calls[SECOND]
        calls[(5,)] = []
        self.assertIs(rule == small_rule(), True)
        self.same(rule.calls, small_rule().calls)
        self.same(rule.shapes, [FIRST, SECOND, BOTH])

    def test_one_list_for_two_shapes(self):
        rows = [(((0, 0),), None)]
        rule = Rule(1, {FIRST: rows, SECOND: rows})
        rows.append(5)
        found = rule.calls
        self.assertIsNot(found[FIRST], found[SECOND])
        found[FIRST].append(5)
        self.same(found[SECOND], [(((0, 0),), None)])
        self.same(rule.calls, {FIRST: [(((0, 0),), None)], SECOND: [(((0, 0),), None)]})

    def test_what_the_properties_return_is_new(self):
        rule = small_rule()
        self.fresh(lambda: rule.shapes)
        self.fresh(lambda: rule.calls)
        self.assertIs(rule == small_rule(), True)
        self.same(rule.call(FIRST, 0), (((0, 0),), None))

    def test_the_calls_of_another_rule(self):
        rule = small_rule()
        other = rule.with_shapes([FIRST, SECOND])
        other.calls[FIRST].clear()
        rule.calls[FIRST].clear()
        self.same(rule.calls[FIRST], small_calls()[FIRST])
        self.same(other.calls[FIRST], small_calls()[FIRST])


class TestNoRules(ExactCase):

    def test_numbers_that_are_none(self):
        for cursors in odd_things():
            if not is_one_of(cursors, range(1, 65)):
                self.raises(InvalidRule, Rule, cursors, {FIRST: []})
                self.raises(InvalidRule, Rule, cursors, {FIRST: [((), None)]})
        self.raises(InvalidRule, Rule, 65, {FIRST: [((), None)] * 65})
        self.raises(InvalidRule, Rule, True, {FIRST: [((), None)]})
        self.raises(InvalidRule, Rule, 0, {FIRST: []})

    def test_calls_that_are_no_dict_of_calls(self):
        for calls in odd_things():
            if not rule_by_hand(1, calls):
                self.raises(InvalidRule, Rule, 1, calls)
        self.raises(InvalidRule, Rule, 1, {})
        self.raises(InvalidRule, Rule, 1, [(FIRST, [((), None)])])
        self.raises(InvalidRule, Rule, 1, small_rule())

    def test_a_key_that_is_no_shape(self):
        for key in [(6,), (0, 0), (-1,), (True,), (False,), (0, True), (), (0, 1, 2), 0, "0", (FIRST,), ("0",)]:
            self.raises(InvalidRule, Rule, 1, {key: [((), None)]})
            self.raises(InvalidRule, Rule, 1, {FIRST: [((), None)], SECOND: [((), None)], key: [((), None)]}
                        if key not in (FIRST, SECOND) else {key: [((), None)]})

    def test_too_few_and_too_many_calls(self):
        for many in (0, 1, 3, 4, 64):
            self.raises(InvalidRule, Rule, 2, {FIRST: [((), None)] * many})
            self.raises(InvalidRule, Rule, 2, {FIRST: [((), None)] * 2, SECOND: [((), None)] * many})

    def test_a_list_in_place_of_a_tuple_and_the_other_way_round(self):
        for rows in ((((), None),), [[(), None]], [([], None)], [(([0, 0],), None)], [([(0, 0)], None)], "x", {}):
            self.raises(InvalidRule, Rule, 1, {FIRST: rows})

    def test_places_that_are_none(self):
        for places in [((0, 1), (0, 0)), ((0, 0), (0, 0)), ((0, 2),), ((1, 0),), ((0, -1),), ((-1, 0),), ((0, True),),
                       ((False, 0),), ((0, 0), (0, 1), (0, 1)), ((0,),), ((0, 0, 0),), (0, 0), (None,), None, 0]:
            self.raises(InvalidRule, Rule, 1, {SECOND: [(places, None)]})
        self.raises(InvalidRule, Rule, 1, {BOTH: [(((1, 0), (0, 1)), None)]})
        self.raises(InvalidRule, Rule, 1, {BOTH: [(((0, 0), (1, 1)), None)]})

    def test_places_with_the_greatest_tables(self):
        good = places_by_hand((5, 4))
        self.same(Rule(1, {(5, 4): [(tuple(good), None)]}).call((5, 4), 0), (tuple(good), None))
        for index in range(len(good) - 1):
            turned = good[:index] + [good[index + 1], good[index]] + good[index + 2:]
            self.raises(InvalidRule, Rule, 1, {(5, 4): [(tuple(turned), None)]})
            doubled = good[:index] + [good[index]] + good[index:]
            self.raises(InvalidRule, Rule, 1, {(5, 4): [(tuple(doubled), None)]})
        self.raises(InvalidRule, Rule, 1, {(5, 4): [(((0, 32),), None)]})
        self.raises(InvalidRule, Rule, 1, {(5, 4): [(((1, 16),), None)]})

    def test_later_cursors_that_are_none(self):
        for later in odd_things():
            if not is_one_of(later, [0, 1, None]):
                self.raises(InvalidRule, Rule, 2, {FIRST: [((), 0), ((), later)]})
        for later in (0, 1, None):
            self.same(Rule(2, {FIRST: [((), 0), ((), later)]}).call(FIRST, 1), ((), later))

    def test_the_wrong_call_may_be_any(self):
        for wrong in (((), 3), ((), True), (((0, 1),), None), None, [(), None], ((), None, None), ((),)):
            for cursor in range(3):
                rows = [((), None)] * 3
                rows[cursor] = wrong
                self.raises(InvalidRule, Rule, 3, {FIRST: rows})
                self.raises(InvalidRule, Rule, 3, {FIRST: rows, SECOND: [((), None)] * 3})
                self.raises(InvalidRule, Rule, 3, {BOTH: [((), None)] * 3, FIRST: rows})

    def test_what_is_near_a_rule(self):
        counts = {True: 0, False: 0}
        for calls in near(small_calls()):
            good = rule_by_hand(2, calls)
            counts[good] += 1
            if good:
                self.same(Rule(2, calls).calls, {shape: calls[shape] for shape in sorted(calls)})
            else:
                self.raises(InvalidRule, Rule, 2, calls)
        self.assertGreater(min(counts.values()), 20)

    def test_both_wrong(self):
        for cursors in (0, 65, True, None, [1]):
            for calls in ({}, None, [], {FIRST: []}, {(True,): [((), None)]}):
                self.raises(InvalidRule, Rule, cursors, calls)


class TestCall(ExactCase):

    def test_unknown_shapes(self):
        rule = small_rule()
        for shape in odd_things() + [(2,), (0, 1), (5, 4), (True,), (False,), (True, False), [0], small_rule()]:
            if not is_one_of(shape, rule.shapes):
                self.raises(UnknownShape, rule.call, shape, 0)
                self.raises(UnknownShape, rule.with_call, shape, 0, ((), None))

    def test_unknown_cursors(self):
        rule = small_rule()
        for cursor in odd_things() + [2, -1, True, False, small_rule()]:
            if not is_one_of(cursor, [0, 1]):
                for shape in rule.shapes:
                    self.raises(UnknownCursor, rule.call, shape, cursor)
                    self.raises(UnknownCursor, rule.with_call, shape, cursor, ((), None))

    def test_calls_that_are_none(self):
        rule = small_rule()
        for shape in rule.shapes:
            things = odd_things() + list(near((((0, 0),), 1))) + [rule, (((0, 0), (1, 0)), None), (((0, 1),), 0)]
            for call in things:
                if not call_by_hand(2, shape, call):
                    self.raises(InvalidCall, rule.with_call, shape, 1, call)
                else:
                    self.same(rule.with_call(shape, 1, call).call(shape, 1), call)
        self.assertIs(rule == small_rule(), True)

    def test_a_call_of_another_shape(self):
        rule = small_rule()
        self.raises(InvalidCall, rule.with_call, FIRST, 0, (((0, 1),), None))
        self.raises(InvalidCall, rule.with_call, SECOND, 0, (((1, 0),), None))
        self.raises(InvalidCall, rule.with_call, BOTH, 0, (((1, 1),), None))

    def test_the_first_error_comes_first(self):
        rule = small_rule()
        for shape in ((2,), (True,), None, [0], (0, 0)):
            for cursor in (2, -1, True, None, [0], 0):
                self.raises(UnknownShape, rule.call, shape, cursor)
                for call in (None, [], ((), 2), ((), None)):
                    self.raises(UnknownShape, rule.with_call, shape, cursor, call)
        for cursor in (2, -1, True, False, None, [0]):
            for call in (None, [], ((), 2), (((0, 9),), None)):
                self.raises(UnknownCursor, rule.with_call, FIRST, cursor, call)

    def test_a_call_at_any_place_and_the_elder_one_put_back(self):
        rule = small_rule()
        for shape in rule.shapes:
            for cursor in (0, 1):
                for call in (((), None), ((), 1), (((0, 0),), 0)):
                    changed = rule.with_call(shape, cursor, call)
                    self.assertIsInstance(changed, Rule)
                    wanted = rule.calls
                    wanted[shape][cursor] = call
                    self.same(changed.calls, wanted)
                    self.same(rule.calls, small_rule().calls)
                    self.assertIs(changed == rule, call == small_calls()[shape][cursor])
                    back = changed.with_call(shape, cursor, rule.call(shape, cursor))
                    self.assertIs(back == rule, True)

    def test_asking_again_gives_the_same(self):
        rule = small_rule()
        self.untouched(rule.call, SECOND, 1)
        self.untouched(lambda shape, cursor, call: rule.with_call(shape, cursor, call).calls, FIRST, 0, ((), 1))
        self.untouched(lambda shapes: rule.with_shapes(shapes).calls, [SECOND, FIRST])


class TestSomeShapes(ExactCase):

    def test_some_shapes_alone(self):
        rule = small_rule()
        for shapes in ([FIRST], [BOTH], [SECOND, FIRST], [BOTH, FIRST], [BOTH, SECOND, FIRST], [FIRST, SECOND, BOTH]):
            part = rule.with_shapes(shapes)
            self.assertIsInstance(part, Rule)
            self.same([part.cursors, part.shapes], [2, sorted(shapes)])
            self.same(part.calls, {shape: small_calls()[shape] for shape in sorted(shapes)})
            self.assertIs(part == rule, len(shapes) == 3)
        self.same(rule.shapes, [FIRST, SECOND, BOTH])

    def test_shapes_that_are_gone_are_unknown(self):
        part = small_rule().with_shapes([FIRST])
        self.raises(UnknownShape, part.call, SECOND, 0)
        self.raises(UnknownShape, part.with_shapes, [FIRST, SECOND])

    def test_wrong_lists(self):
        rule = small_rule()
        wrong = [[], [FIRST, FIRST], [FIRST, SECOND, FIRST], (FIRST,), (FIRST, SECOND), [(2,)], [FIRST, (2,)], [[0]],
                 [(True,)], [FIRST, (True,)], [None], FIRST, None, {FIRST: True}, "0", [FIRST, None], [[FIRST]], rule]
        for shapes in wrong:
            self.raises(UnknownShape, rule.with_shapes, shapes)
        for shapes in odd_things() + list(near([FIRST, SECOND])):
            if isinstance(shapes, list) and shapes and all([is_one_of(shape, rule.shapes) for shape in shapes]) and (
                    len(set(shapes)) == len(shapes)):
                self.same(rule.with_shapes(shapes).shapes, sorted(shapes))
            else:
                self.raises(UnknownShape, rule.with_shapes, shapes)


class TestEqual(ExactCase):

    def test_equal_rules(self):
        self.assertIs(small_rule() == small_rule(), True)
        rule = small_rule()
        self.assertIs(rule == rule, True)
        self.assertIs(rule == Rule(rule.cursors, rule.calls), True)
        self.assertIs(rule != small_rule(), False)

    def test_rules_that_are_not_equal(self):
        rule = small_rule()
        for calls in near(small_calls()):
            if rule_by_hand(2, calls):
                equal = calls == small_calls()
                self.assertIs(rule == Rule(2, calls), equal)
                self.assertIs(Rule(2, calls) == rule, equal)
                self.assertIs(Rule(2, calls) != rule, not equal)

    def test_other_numbers_of_cursors(self):
        one = Rule(1, {FIRST: [((), None)]})
        two = Rule(2, {FIRST: [((), None)] * 2})
        self.assertIs(one == two, False)
        self.assertIs(two == one, False)

    def test_other_objects(self):
        rule = small_rule()
        for thing in odd_things() + [small_calls(), (2, small_calls()), [rule]]:
            self.assertIs(rule == thing, False)
            self.assertIs(thing == rule, False)
            self.assertIs(rule != thing, True)


if __name__ == "__main__":
    unittest.main()
