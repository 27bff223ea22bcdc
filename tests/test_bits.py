"""Widths, hashes, and the numbers of buckets."""

import unittest

from loosecursors.bits import bucket, is_hash, is_width, turned, within
from loosecursors.errors import InvalidHash, InvalidNumber, InvalidWidth
from tests.helpers import WIDTHS, ExactCase, is_one_of, odd_things

HASHES = list(range(32))
POWERS = [1, 2, 4, 8, 16, 32]


def wrong_widths():
    return [thing for thing in odd_things() if not is_one_of(thing, WIDTHS)]


def wrong_hashes():
    return [thing for thing in odd_things() if not is_one_of(thing, HASHES)]


class TestExamples(ExactCase):

    def test_the_example(self):
        self.example("""
>>> from loosecursors.bits import bucket, turned, within
>>> [bucket(13, 3), turned(1, 3), turned(6, 3), within(1, 1, 3)]
[5, 4, 3, [1, 3, 5, 7]]
""")


class TestKinds(ExactCase):

    def test_the_widths(self):
        self.same([is_width(number) for number in range(-2, 9)], [False] * 2 + [True] * 6 + [False] * 3)

    def test_the_hashes(self):
        self.same([is_hash(number) for number in range(-2, 35)], [False] * 2 + [True] * 32 + [False] * 3)

    def test_any_object_gets_a_bool_itself(self):
        for thing in odd_things():
            self.assertIs(self.untouched(is_width, thing), is_one_of(thing, WIDTHS))
            self.assertIs(self.untouched(is_hash, thing), is_one_of(thing, HASHES))

    def test_bools_are_no_integers(self):
        for thing in (True, False):
            self.assertIs(is_width(thing), False)
            self.assertIs(is_hash(thing), False)

    def test_by_name(self):
        self.assertIs(is_width(thing=5), True)
        self.assertIs(is_hash(thing=31), True)


class TestBucket(ExactCase):

    def test_all_hashes_and_widths(self):
        for width in WIDTHS:
            for code in HASHES:
                rest = code
                while rest >= POWERS[width]:
                    rest -= POWERS[width]
                self.same(bucket(code, width), rest)

    def test_the_edges(self):
        self.same([bucket(0, 0), bucket(31, 0), bucket(0, 5), bucket(31, 5), bucket(31, 1)], [0, 0, 0, 31, 1])

    def test_by_name_in_another_order(self):
        self.same(bucket(width=3, code=13), 5)

    def test_wrong_widths(self):
        for width in wrong_widths():
            self.raises(InvalidWidth, bucket, 3, width)

    def test_wrong_hashes(self):
        for code in wrong_hashes():
            for width in (0, 5):
                self.raises(InvalidHash, bucket, code, width)

    def test_the_width_is_named_first(self):
        for code in wrong_hashes():
            for width in (-1, 6, True, None, [], "0"):
                self.raises(InvalidWidth, bucket, code, width)


class TestTurned(ExactCase):

    def test_all_numbers_digit_by_digit(self):
        for width in WIDTHS:
            for number in range(POWERS[width]):
                digits = [number // POWERS[place] - 2 * (number // (2 * POWERS[place])) for place in range(width)]
                total = sum([POWERS[width - 1 - place] for place in range(width) if digits[place] == 1])
                self.same(turned(number, width), total)

    def test_turned_twice_is_the_number(self):
        for width in WIDTHS:
            numbers = list(range(POWERS[width]))
            self.same(sorted([turned(number, width) for number in numbers]), numbers)
            self.same([turned(turned(number, width), width) for number in numbers], numbers)

    def test_the_edges(self):
        self.same([turned(0, 0), turned(0, 5), turned(31, 5), turned(1, 5), turned(16, 5)], [0, 0, 31, 16, 1])
        self.same([turned(0, 1), turned(1, 1), turned(1, 2), turned(2, 2)], [0, 1, 2, 1])

    def test_by_name_in_another_order(self):
        self.same(turned(width=3, number=6), 3)

    def test_wrong_widths(self):
        for width in wrong_widths():
            self.raises(InvalidWidth, turned, 0, width)

    def test_wrong_numbers(self):
        for width in WIDTHS:
            self.raises(InvalidNumber, turned, POWERS[width], width)
            for number in odd_things():
                if not is_one_of(number, list(range(POWERS[width]))):
                    self.raises(InvalidNumber, turned, number, width)

    def test_the_width_is_named_first(self):
        for number in wrong_hashes():
            for width in (-1, 6, False, None, (), "1"):
                self.raises(InvalidWidth, turned, number, width)


class TestWithin(ExactCase):

    def test_all_numbers_and_widths(self):
        for large in WIDTHS:
            for small in range(large + 1):
                for number in range(POWERS[small]):
                    wanted = []
                    for one in range(POWERS[large]):
                        rest = one
                        while rest >= POWERS[small]:
                            rest -= POWERS[small]
                        if rest == number:
                            wanted.append(one)
                    self.same(within(number, small, large), wanted)

    def test_the_edges(self):
        self.same(within(0, 0, 0), [0])
        self.same(within(0, 0, 5), list(range(32)))
        self.same(within(31, 5, 5), [31])
        self.same(within(0, 5, 5), [0])
        self.same(within(3, 2, 2), [3])
        self.same(within(1, 1, 2), [1, 3])

    def test_by_name_in_another_order(self):
        self.same(within(large=3, number=1, small=1), [1, 3, 5, 7])

    def test_the_list_is_new(self):
        self.fresh(within, 1, 1, 3)
        self.fresh(within, 0, 0, 5)

    def test_wrong_widths(self):
        for width in wrong_widths():
            self.raises(InvalidWidth, within, 0, width, 5)
            self.raises(InvalidWidth, within, 0, 0, width)
            self.raises(InvalidWidth, within, 0, width, width)

    def test_wrong_numbers(self):
        for small in WIDTHS:
            self.raises(InvalidNumber, within, POWERS[small], small, 5)
            for number in odd_things():
                if not is_one_of(number, list(range(POWERS[small]))):
                    self.raises(InvalidNumber, within, number, small, 5)
                    self.raises(InvalidNumber, within, number, small, small)

    def test_a_number_of_the_large_table_alone(self):
        for number in range(2, 8):
            self.raises(InvalidNumber, within, number, 1, 3)

    def test_small_greater_than_large(self):
        for small in WIDTHS:
            for large in range(small):
                for number in (0, POWERS[large] - 1, POWERS[small] - 1, POWERS[small], None):
                    self.raises(InvalidNumber, within, number, small, large)

    def test_the_widths_are_named_first(self):
        for number in wrong_hashes():
            for width in (-1, 6, True, None, {}, "2"):
                self.raises(InvalidWidth, within, number, width, 3)
                self.raises(InvalidWidth, within, number, 3, width)
        self.raises(InvalidWidth, within, 0, 6, 5)
        self.raises(InvalidWidth, within, 0, 5, -1)


if __name__ == "__main__":
    unittest.main()
