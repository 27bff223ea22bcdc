"""Shapes and the places in them."""

import itertools
import unittest

from loosecursors.errors import InvalidHash, InvalidMove, InvalidShape
from loosecursors.shapes import is_place, is_shape, place_of, places
from tests.helpers import SHAPES, WIDTHS, ExactCase, is_one_of, near, odd_things

HASHES = list(range(32))


def places_by_hand(shape):
    """The places of a shape, in the order in which they are counted."""
    found = []
    for table in range(len(shape)):
        many = 1
        for _ in range(shape[table]):
            many += many
        found += [(table, number) for number in range(many)]
    return found


def wrong_shapes():
    return [thing for thing in odd_things() if not is_one_of(thing, SHAPES)]


class TestExamples(ExactCase):

    def test_the_example(self):
        self.example("""
>>> from loosecursors.shapes import place_of, places
>>> [places((1,)), places((1, 0)), place_of((1, 2), 7, False), place_of((1, 2), 7, True)]
[[(0, 0), (0, 1)], [(0, 0), (0, 1), (1, 0)], (0, 1), (1, 3)]
""")


class TestIsShape(ExactCase):

    def test_all_shapes(self):
        self.assertEqual(len(SHAPES), 36)
        for shape in SHAPES:
            self.assertIs(is_shape(shape), True)

    def test_both_widths_in_either_order(self):
        for first, second in itertools.product(range(-1, 8), repeat=2):
            self.assertIs(is_shape((first, second)), first != second and first in WIDTHS and second in WIDTHS)

    def test_any_object_gets_a_bool_itself(self):
        for thing in odd_things():
            self.assertIs(self.untouched(is_shape, thing), is_one_of(thing, SHAPES))

    def test_tuples_of_odd_parts(self):
        parts = [0, 1, 5, 6, -1, True, False, None, "1", (), (1,), [], [1], {}, 10 ** 39]
        for size in range(4):
            for thing in itertools.product(parts, repeat=size):
                self.assertIs(is_shape(thing), is_one_of(thing, SHAPES))
                self.assertIs(is_shape(list(thing)), False)

    def test_what_is_near_a_shape(self):
        for shape in SHAPES:
            for thing in near(shape):
                self.assertIs(is_shape(thing), is_one_of(thing, SHAPES))

    def test_by_name(self):
        self.assertIs(is_shape(thing=(1, 2)), True)


class TestPlaces(ExactCase):

    def test_all_shapes(self):
        for shape in SHAPES:
            self.same(places(shape), places_by_hand(shape))
            self.same(places(shape), sorted(places(shape)))

    def test_the_edges(self):
        self.same(places((0,)), [(0, 0)])
        self.same(places((0, 1)), [(0, 0), (1, 0), (1, 1)])
        self.same(len(places((5,))), 32)
        self.same(len(places((5, 4))), 48)
        self.same(places((5, 4))[31:33], [(0, 31), (1, 0)])

    def test_by_name(self):
        self.same(places(shape=(1,)), [(0, 0), (0, 1)])

    def test_the_list_is_new(self):
        for shape in SHAPES:
            self.fresh(places, shape)

    def test_wrong_shapes(self):
        for thing in wrong_shapes():
            self.raises(InvalidShape, places, thing)


class TestIsPlace(ExactCase):

    def test_each_bucket_of_both_tables(self):
        for shape in SHAPES:
            wanted = places_by_hand(shape)
            for table in range(-1, 4):
                for number in range(-1, 34):
                    self.assertIs(is_place(shape, (table, number)), (table, number) in wanted)

    def test_any_object_gets_a_bool_itself(self):
        for shape in SHAPES:
            wanted = places_by_hand(shape)
            for thing in odd_things():
                self.assertIs(self.untouched(is_place, shape, thing), is_one_of(thing, wanted))

    def test_what_is_near_a_place(self):
        for shape in ((0,), (1,), (0, 1), (5, 4)):
            wanted = places_by_hand(shape)
            for place in wanted:
                for thing in near(place):
                    self.assertIs(is_place(shape, thing), is_one_of(thing, wanted))

    def test_a_bool_or_a_list_is_none(self):
        for thing in ((False, 0), (0, False), (0, True), (True, 0), [0, 0], (0,), (0, 0, 0), 0, ((0, 0),)):
            self.assertIs(is_place((1, 2), thing), False)

    def test_by_name_in_another_order(self):
        self.assertIs(is_place(thing=(1, 1), shape=(0, 1)), True)

    def test_wrong_shapes(self):
        for shape in wrong_shapes():
            for thing in ((0, 0), None, [], 5):
                self.raises(InvalidShape, is_place, shape, thing)


class TestPlaceOf(ExactCase):

    def test_all_hashes_in_one_table(self):
        for width in WIDTHS:
            for code in HASHES:
                self.same(place_of((width,), code, False), (0, code % 2 ** width))

    def test_all_hashes_in_two_tables(self):
        for shape in SHAPES:
            if len(shape) == 2:
                for code in HASHES:
                    self.same(place_of(shape, code, False), (0, code % 2 ** shape[0]))
                    self.same(place_of(shape, code, True), (1, code % 2 ** shape[1]))

    def test_the_place_is_one_of_the_shape(self):
        for shape in SHAPES:
            for moved in (False, True)[:len(shape)]:
                found = sorted({place_of(shape, code, moved) for code in HASHES})
                self.same(found, [place for place in places_by_hand(shape) if place[0] == int(moved)])

    def test_by_name_in_another_order(self):
        self.same(place_of(moved=True, code=7, shape=(1, 2)), (1, 3))

    def test_wrong_shapes(self):
        for shape in wrong_shapes():
            self.raises(InvalidShape, place_of, shape, 0, False)

    def test_wrong_hashes(self):
        for code in odd_things():
            if not is_one_of(code, HASHES):
                for shape in ((0,), (5,), (0, 1)):
                    self.raises(InvalidHash, place_of, shape, code, False)

    def test_a_key_in_one_table_is_never_moved(self):
        for width in WIDTHS:
            self.raises(InvalidMove, place_of, (width,), 0, True)

    def test_moved_is_a_bool(self):
        for moved in odd_things():
            if not is_one_of(moved, [False, True]):
                for shape in ((0,), (5,), (0, 1), (5, 4)):
                    self.raises(InvalidMove, place_of, shape, 31, moved)

    def test_the_first_error_comes_first(self):
        for shape in ((6,), [1], (True,), (1, 1), None):
            for code in (-1, 32, True, "0", [3]):
                for moved in (0, 1, None, [], True, False):
                    self.raises(InvalidShape, place_of, shape, code, moved)
        for code in (-1, 32, True, "0", [3]):
            for moved in (0, 1, None, []):
                self.raises(InvalidHash, place_of, (1, 2), code, moved)
            self.raises(InvalidHash, place_of, (1,), code, True)


if __name__ == "__main__":
    unittest.main()
