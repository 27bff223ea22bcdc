"""The formulas for reversed bits, against their rule and its runs."""

import random
import unittest

from loosecursors.ends import longest, loop
from loosecursors.errors import InvalidHash, InvalidShape, InvalidShapes, InvalidWidth, UnknownCursor
from loosecursors.formulas import full_calls, full_times, span, spot
from loosecursors.least import fewest_calls
from loosecursors.makers import counting, reversed_bits
from loosecursors.missed import missed_run
from loosecursors.roads import full_road
from loosecursors.times import most_times
from tests.helpers import (SHAPES, WIDTHS, WRONG_HASHES, WRONG_WIDTHS, ExactCase, drawn_shapes, exact, is_one_of,
                           moves, odd_things)

WRONG_SHAPES = [-1, 0, True, None, "(0,)", (), (6,), (-1,), (True,), (None,), (0, 0), (5, 5), (0, 6), (False, 1), [0],
                [0, 1], (0, 1, 2), ((0,),), {}, {(0,): 0}, 10 ** 39]
WRONG_CURSORS = [-1, True, False, None, "0", "", (), (0,), [0], [], {}, {0: 1}, 10 ** 39, -10 ** 39]
WRONG_LISTS = [None, True, 0, "", "(0,)", (), ((0,),), [], {}, {(0,): 1}, [0], [[0]], [(0,), (0,)], [(1,), (6,)],
               [(True,)], [(0,), (True,)], [(1, 1)], [(0,), None], [()], [(0, 1, 2)], [(0,), "1"], 10 ** 39]


def turned_by_hand(number, width):
    """The last binary digits of a number, from the right to the left."""
    return int("0" + f"{number:032b}"[::-1][:width], 2)


class TestExamples(ExactCase):

    def test_the_example(self):
        self.example("""
>>> from loosecursors.formulas import full_calls, full_times, span, spot
>>> [spot(6, 3), span((1,), 2, 3), span((1, 2), 1, 2), full_calls([(3,), (1,)]), full_calls([(3, 0)])]
[3, (0, 3), (2, 3), (2, 8), (1, 1)]
>>> [[full_times([(0,), (1, 5), (2,)], code) for code in (0, 1, 2, 3)], full_times([(0,), (2,)], 2)]
[[3, 2, 2, 1], 2]
""")


class TestSpots(ExactCase):

    def test_all_hashes_and_all_widths(self):
        for top in WIDTHS:
            for code in range(32):
                self.same(spot(code, top), turned_by_hand(code % 2 ** top, top))

    def test_every_spot_is_one_of_as_many_hashes(self):
        for top in WIDTHS:
            self.same(sorted([spot(code, top) for code in range(32)]),
                      sorted(list(range(2 ** top)) * 2 ** (5 - top)))


class TestSpans(ExactCase):

    def check(self, shape, cursor, top):
        """The call lists just the hashes whose spots are from first to last."""
        others = [(top,)] if shape != (top,) else []
        rule = reversed_bits([shape] + others)
        self.same(rule.cursors, 2 ** top)
        found = rule.call(shape, cursor)[0]
        first, last = span(shape, cursor, top)
        seen = []
        for code in range(32):
            for moved in moves(shape):
                place = (int(moved), code % 2 ** shape[int(moved)])
                inside = first <= turned_by_hand(code, top) <= last
                self.assertIs(place in found, inside, (shape, cursor, top, code, moved))
                seen += [turned_by_hand(code, top)] * inside
        self.same((min(seen), max(seen)), (first, last))

    def test_all_shapes_and_tops_and_cursors(self):
        for shape in SHAPES:
            for top in range(max(shape), 6):
                for cursor in range(2 ** top):
                    self.check(shape, cursor, top)

    def test_all_hashes_are_listed(self):
        for shape in [(0,), (0, 3), (5, 0), (1, 0)]:
            for top in range(max(shape), 6):
                for cursor in range(2 ** top):
                    self.same(span(shape, cursor, top), (0, 2 ** top - 1))

    def test_one_spot_is_listed(self):
        for top in WIDTHS:
            for cursor in range(2 ** top):
                at = turned_by_hand(cursor, top)
                self.same(span((top,), cursor, top), (at, at))

    def test_spans_lie_side_by_side(self):
        for shape in SHAPES:
            spans = sorted({span(shape, cursor, 5) for cursor in range(32)})
            self.same([low for low, _ in spans] + [32], [0] + [high + 1 for _, high in spans])
            self.same(len(spans), 2 ** min(shape))


class TestFull(ExactCase):

    def check(self, shapes, codes):
        rule, road = reversed_bits(shapes), full_road(shapes)
        self.same(full_calls(shapes), (fewest_calls(rule, road)[0], longest(rule, road)[0]))
        for code in codes:
            self.same(full_times(shapes, code), most_times(rule, road, code)[0])

    def test_one_shape(self):
        for shape in SHAPES:
            self.check([shape], [0, 1, 2, 7, 16, 31])
            self.same(full_calls([shape]), (2 ** min(shape), 2 ** min(shape)))
            self.same([full_times([shape], code) for code in range(32)], [1] * 32)

    def test_two_tables_of_width_0_and_5(self):
        self.same([full_calls(shapes) for shapes in ([(0,)], [(5,)], [(0, 5)], [(5, 0)], [(5,), (0,)])],
                  [(1, 1), (32, 32), (1, 1), (1, 1), (1, 32)])
        self.same([full_times([(0,), (5,)], code) for code in (0, 31, 15)], [2, 1, 2])
        self.same([full_times([(width,) for width in WIDTHS], code) for code in (0, 31, 16, 1, 30)], [6, 1, 5, 5, 2])

    def test_two_shapes(self):
        rand = random.Random(151)
        for shape in SHAPES:
            for other in rand.sample(SHAPES, 5):
                if shape != other:
                    self.check([shape, other], rand.sample(range(32), 3))

    def test_lists_of_several_shapes(self):
        for rand, shapes in drawn_shapes(152, 60, most=6):
            self.check(shapes, rand.sample(range(32), 4))

    def test_one_table_alone(self):
        for rand, shapes in drawn_shapes(153, 25, [(width,) for width in WIDTHS], 6):
            self.check(shapes, range(32))

    def test_two_tables_alone(self):
        for rand, shapes in drawn_shapes(154, 15, [shape for shape in SHAPES if len(shape) == 2], 5):
            self.check(shapes, range(32))

    def test_small_widths_and_all_hashes(self):
        for rand, shapes in drawn_shapes(155, 30, [shape for shape in SHAPES if max(shape) < 4], 5):
            self.check(shapes, range(32))

    def test_twelve_shapes(self):
        for rand, shapes in drawn_shapes(156, 3, most=12):
            more = [shape for shape in SHAPES if shape not in shapes]
            self.check(shapes + rand.sample(more, 12 - len(shapes)), rand.sample(range(32), 4))

    def test_the_order_of_the_shapes_means_nothing(self):
        for rand, shapes in drawn_shapes(157, 40, most=6):
            wanted = exact((full_calls(shapes), [full_times(shapes, code) for code in range(32)]))
            for order in (shapes[::-1], sorted(shapes), rand.sample(shapes, len(shapes))):
                self.assertEqual(exact((full_calls(order), [full_times(order, code) for code in range(32)])), wanted)


class TestErrors(ExactCase):

    def test_spot(self):
        for top in WRONG_WIDTHS:
            for code in [0, 31] + WRONG_HASHES:
                self.raises(InvalidWidth, spot, code, top)
        for code in WRONG_HASHES:
            for top in WIDTHS:
                self.raises(InvalidHash, spot, code, top)

    def test_span(self):
        for top in WRONG_WIDTHS:
            for shape in [(0,), (6,), (True,), None]:
                for cursor in (0, -1, True, None):
                    self.raises(InvalidWidth, span, shape, cursor, top)
        for shape in WRONG_SHAPES:
            for cursor in [0, 32] + WRONG_CURSORS:
                self.raises(InvalidShape, span, shape, cursor, 5)
        for top in WIDTHS:
            for cursor in [2 ** top, 2 ** top + 1, 32, 64] + WRONG_CURSORS:
                self.raises(UnknownCursor, span, (0,), cursor, top)
                self.raises(UnknownCursor, span, (top,), cursor, top)

    def test_a_width_of_the_shape_is_greater_than_top(self):
        for shape in SHAPES:
            for top in WIDTHS:
                if max(shape) > top:
                    for cursor in (0, -1, None, 64):
                        self.raises(InvalidShape, span, shape, cursor, top)
                else:
                    span(shape, 0, top)

    def test_full(self):
        for shapes in WRONG_LISTS:
            self.raises(InvalidShapes, full_calls, shapes)
            for code in [0] + WRONG_HASHES:
                self.raises(InvalidShapes, full_times, shapes, code)
        for code in WRONG_HASHES:
            self.raises(InvalidHash, full_times, [(0,)], code)
            self.raises(InvalidHash, full_times, [(5, 0), (3,)], code)

    def test_objects_of_all_kinds(self):
        for thing in odd_things() + [reversed_bits([(0,)]), full_road([(0,)])]:
            if not is_one_of(thing, WIDTHS):
                self.raises(InvalidWidth, spot, 0, thing)
                self.raises(InvalidWidth, span, (0,), 0, thing)
            if not is_one_of(thing, range(32)):
                self.raises(InvalidHash, spot, thing, 3)
                self.raises(InvalidHash, full_times, [(1,)], thing)
                self.raises(UnknownCursor, span, (1,), thing, 5)
            if not is_one_of(thing, SHAPES):
                self.raises(InvalidShape, span, thing, 0, 5)
            if not is_one_of(thing, [[(0,)], [(0,), (1,)]]):
                self.raises(InvalidShapes, full_calls, thing)
                self.raises(InvalidShapes, full_times, thing, 0)


class TestArguments(ExactCase):

    def test_the_list_is_as_before(self):
        for shapes in ([(3,), (1,)], [(5, 0), (0,), (2, 1)]):
            self.untouched(full_calls, shapes)
            self.untouched(full_times, shapes, 6)

    def test_by_name_in_another_order(self):
        self.same(spot(top=3, code=6), 3)
        self.same(span(top=2, cursor=1, shape=(1, 2)), (2, 3))
        self.same(full_calls(shapes=[(3,), (1,)]), (2, 8))
        self.same(full_times(code=2, shapes=[(0,), (2,)]), 2)
        self.raises(InvalidWidth, span, top=6, cursor=None, shape=None)
        self.raises(InvalidShapes, full_times, code=None, shapes=[])


class TestFacts(ExactCase):

    def test_reversed_bits_miss_no_hash_and_every_listing_ends(self):
        for rand, shapes in drawn_shapes(158, 20, most=5):
            rule, road = reversed_bits(shapes), full_road(shapes)
            self.assertIsNone(loop(rule, road))
            for code in rand.sample(range(32), 8):
                self.assertIsNone(missed_run(rule, road, code))

    def test_the_formulas_are_not_those_of_other_rules(self):
        rule, road = counting([(1,), (2,)]), full_road([(1,), (2,)])
        self.assertNotEqual(full_times([(1,), (2,)], 1), most_times(rule, road, 1)[0])


if __name__ == "__main__":
    unittest.main()
