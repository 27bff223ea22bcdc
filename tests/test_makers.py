"""The three makers, and the facts about their rules."""

import random
import unittest

from loosecursors.ends import longest, loop
from loosecursors.errors import InvalidShapes
from loosecursors.makers import counting, counting_down, reversed_bits
from loosecursors.missed import missed_run
from loosecursors.roads import Road, full_road
from loosecursors.rules import Rule
from tests.helpers import SHAPES, ExactCase, draw_road, drawn_shapes, exact, is_one_of, nested, odd_things

MAKERS = (counting, counting_down, reversed_bits)
ZERO, ONE, TWO, UP, DOWN = (0,), (1,), (2,), (0, 1), (1, 0)


def buckets(shape):
    """The lists of the numbers of the buckets of each table."""
    return [list(range(2 ** width)) for width in shape]


def top_by_hand(shapes):
    return sorted([width for shape in shapes for width in shape])[-1]


def digits(number, many):
    """The binary digits of a number, as a string with as many signs."""
    return f"{number:032b}"[32 - many:]


def from_digits(text):
    return int("0" + text, 2)


def tables_with(shape, number):
    return tuple([(table, number) for table, numbers in enumerate(buckets(shape)) if number in numbers])


def counting_by_hand(shape, cursor, top):
    goes_on = any([cursor + 1 in numbers for numbers in buckets(shape)])
    return (tables_with(shape, cursor), cursor + 1 if goes_on else None)


def down_by_hand(shape, cursor, top):
    last = sorted([numbers[-1] for numbers in buckets(shape)])[-1]
    number = last if cursor == 0 or cursor - 1 > last else cursor - 1
    return (tables_with(shape, number), number or None)


def reversed_by_hand(shape, cursor, top):
    """By digits: the call lists the buckets that end with the last digits of the cursor, as many as the least width;
    then these digits are counted on from the left, and all others are 0."""
    small = sorted(shape)[0]
    ending = digits(cursor, small)
    listed = [(table, number) for table, width in enumerate(shape) for number in range(2 ** width)
              if digits(number, small) == ending]
    count = from_digits(ending[::-1]) + 1
    later = None if count == 2 ** small else from_digits(digits(count, small)[::-1])
    return (tuple(listed), later)


BY_HAND = {counting: counting_by_hand, counting_down: down_by_hand, reversed_bits: reversed_by_hand}


class TestExamples(ExactCase):

    def test_the_example(self):
        self.example("""
>>> from loosecursors.makers import counting, counting_down, reversed_bits
>>> [counting_down([(1,), (2,)]).call((1,), k) for k in (0, 1, 3)]
[(((0, 1),), 1), (((0, 0),), None), (((0, 1),), 1)]
>>> [counting([(0,), (1,)]).call((0,), 1), reversed_bits([(2,), (1,), (1, 2)]).call((2,), 2), reversed_bits([(1,), (1, 2)]).call((1, 2), 2)]
[((), None), (((0, 2),), 1), (((0, 0), (1, 0), (1, 2)), 1)]
""")


class TestMade(ExactCase):

    def check(self, maker, shapes):
        top = top_by_hand(shapes)
        rule = maker(shapes)
        self.assertIsInstance(rule, Rule)
        self.same([rule.cursors, rule.shapes], [2 ** top, sorted(shapes)])
        for shape in shapes:
            for cursor in range(2 ** top):
                self.same(rule.call(shape, cursor), BY_HAND[maker](shape, cursor, top))

    def test_one_shape(self):
        for maker in MAKERS:
            for shape in SHAPES:
                self.check(maker, [shape])

    def test_two_shapes(self):
        for maker in MAKERS:
            for shape in SHAPES[::5]:
                for other in SHAPES:
                    if shape != other:
                        self.check(maker, [shape, other])

    def test_lists_of_up_to_twelve_shapes(self):
        for rand, shapes in drawn_shapes(101, 60):
            for maker in MAKERS:
                self.check(maker, shapes)

    def test_the_order_of_the_shapes_means_nothing(self):
        for rand, shapes in drawn_shapes(102, 30, most=6):
            for maker in MAKERS:
                before = exact(maker(shapes).calls)
                for order in (shapes[::-1], sorted(shapes), rand.sample(shapes, len(shapes))):
                    self.assertEqual(exact(maker(order).calls), before)

    def test_width_0_alone(self):
        for maker in MAKERS:
            rule = maker([ZERO])
            self.same([rule.cursors, rule.calls], [1, {ZERO: [(((0, 0),), None)]}])

    def test_counting_through_two_tables(self):
        rule = counting([(1, 2), (2, 1)])
        self.same(rule.calls, {
            (1, 2): [(((0, 0), (1, 0)), 1), (((0, 1), (1, 1)), 2), (((1, 2),), 3), (((1, 3),), None)],
            (2, 1): [(((0, 0), (1, 0)), 1), (((0, 1), (1, 1)), 2), (((0, 2),), 3), (((0, 3),), None)],
        })

    def test_counting_down_through_two_tables(self):
        rule = counting_down([(1, 2), ONE])
        self.same(rule.calls, {
            ONE: [(((0, 1),), 1), (((0, 0),), None), (((0, 1),), 1), (((0, 1),), 1)],
            (1, 2): [(((1, 3),), 3), (((0, 0), (1, 0)), None), (((0, 1), (1, 1)), 1), (((1, 2),), 2)],
        })

    def test_reversed_bits_through_two_tables(self):
        rule = reversed_bits([(1, 2), TWO, (2, 0)])
        self.same(rule.calls, {
            (1, 2): [(((0, 0), (1, 0), (1, 2)), 1), (((0, 1), (1, 1), (1, 3)), None),
                     (((0, 0), (1, 0), (1, 2)), 1), (((0, 1), (1, 1), (1, 3)), None)],
            TWO: [(((0, 0),), 2), (((0, 1),), 3), (((0, 2),), 1), (((0, 3),), None)],
            (2, 0): [(((0, 0), (0, 1), (0, 2), (0, 3), (1, 0)), None)] * 4,
        })

    def test_the_greatest_width_may_be_that_of_another_shape(self):
        for maker in MAKERS:
            for others in ([(5,)], [(0, 5)], [(5, 4), (3,)]):
                self.same(maker([ONE] + others).cursors, 32)
                self.check(maker, [ONE] + others)
        self.same(reversed_bits([ONE, (3,)]).call(ONE, 4), (((0, 0),), 1))
        self.same(counting([ONE, (3,)]).call(ONE, 5), ((), None))
        self.same(counting_down([ONE, (3,)]).call(ONE, 5), (((0, 1),), 1))


class TestErrors(ExactCase):

    def test_any_object(self):
        for maker in MAKERS:
            for thing in odd_things():
                if not is_one_of(thing, [[ZERO], [ZERO, ONE]]):
                    self.raises(InvalidShapes, maker, thing)

    def test_what_is_near_a_list_of_shapes(self):
        wrong = [[], [ONE, ONE], [ONE, TWO, ONE], (ONE, TWO), (ONE,), ONE, {ONE: TWO}, {ONE}, "(1,)", [1], [[1]],
                 [ONE, (2, 2)], [ONE, (6,)], [ONE, (True,)], [(True,)], [(False, 1)], [ONE, None], [ONE, ()],
                 [ONE, (1, 2, 3)], [ONE, [2]], [ONE, "2"], [ONE, (-1,)], [(1, None)], [ONE, [ONE]], [None], [[]],
                 [nested(15, lambda thing: (thing,))], counting([ONE]), [counting([ONE])], full_road([ONE])]
        for maker in MAKERS:
            for thing in wrong:
                self.raises(InvalidShapes, maker, thing)


class TestArguments(ExactCase):

    def test_what_is_passed_stays_as_it_was(self):
        for maker in MAKERS:
            for shapes in ([TWO, ONE, (1, 2)], [(5, 0)], [DOWN, UP]):
                before = exact(shapes)
                rule = maker(shapes)
                text = exact(rule.calls)
                self.assertEqual(exact(shapes), before)
                shapes.append((4,))
                shapes[0] = (3,)
                self.assertEqual(exact(rule.calls), text)

    def test_asking_again_gives_the_same(self):
        for maker in MAKERS:
            first = maker([TWO, (1, 2)])
            text = exact(first.calls)
            first.calls[TWO].append(None)
            self.assertEqual(exact(maker([TWO, (1, 2)]).calls), text)
            self.assertIs(maker([TWO, (1, 2)]) == first, True)

    def test_by_name(self):
        for maker in MAKERS:
            self.assertIs(maker(shapes=[TWO, ONE]) == maker([TWO, ONE]), True)


class TestFacts(ExactCase):

    def test_reversed_bits_miss_no_hash_and_end(self):
        for rand, shapes in drawn_shapes(103, 60, most=6):
            rule = reversed_bits(shapes)
            road = draw_road(rand, shapes)
            self.assertIsNone(loop(rule, road))
            self.assertIsNotNone(longest(rule, road))
            for code in rand.sample(range(32), 8):
                self.assertIsNone(missed_run(rule, road, code))

    def test_reversed_bits_on_full_roads(self):
        for rand, shapes in drawn_shapes(104, 6):
            rule, road = reversed_bits(shapes), full_road(shapes)
            self.assertIsNone(loop(rule, road))
            for code in range(32):
                self.assertIsNone(missed_run(rule, road, code))

    def check_counting(self, maker, changes_of):
        rand = random.Random(105)
        for _ in range(40):
            shapes = [(width,) for width in rand.sample(range(6), rand.randrange(1, 7))]
            changes = [change for change in changes_of(shapes) if rand.random() < 0.7]
            road = Road(rand.sample(shapes, rand.randrange(1, len(shapes) + 1)), changes)
            for code in range(32):
                self.assertIsNone(missed_run(maker(shapes), road, code))

    def test_counting_misses_nothing_if_tables_only_grow(self):
        self.check_counting(counting, lambda shapes: [(one, two) for one in shapes for two in shapes if one < two])

    def test_counting_down_misses_nothing_if_tables_only_shrink(self):
        self.check_counting(counting_down, lambda shapes: [(one, two) for one in shapes for two in shapes if one > two])

    def test_otherwise_they_do_miss_something(self):
        self.same(missed_run(counting([ONE, TWO]), Road([TWO], [(TWO, ONE)]), 2), [(TWO, False), (ONE, False)])
        self.same(missed_run(counting_down([ONE, TWO]), Road([ONE], [(ONE, TWO)]), 2), [(ONE, False), (TWO, False)])


if __name__ == "__main__":
    unittest.main()
