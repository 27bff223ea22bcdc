"""Tables, against a model that keeps the keys of each bucket."""

import random
import string
import unittest

from loosecursors.errors import (DuplicateName, InvalidHash, InvalidName, InvalidNumber, InvalidPlace, InvalidWidth, Moving,
                                 UnknownName)
from loosecursors.shapes import is_place, place_of
from loosecursors.tables import Table, check_new_name, is_name, is_name_in
from tests.helpers import (SHAPES, WIDTHS, WRONG_HASHES, WRONG_NAMES, WRONG_NUMBERS, WRONG_WIDTHS, ExactCase, TableModel,
                           all_places, exact, odd_things, outcome, table_shown)

POOL = ["a", "b", "c", "d", "e", "key", "other", "zzzzzzzz", "abcdefgh", "m", "n", "o", "p", "q", "r", "s"]
WRONG_COUNTS = WRONG_NUMBERS + [0, 33, 64, 10 ** 39]


def moving(first=1, second=2, moved=0, keys=()):
    """A table of a shape of two tables, so many buckets of which were moved."""
    table = Table(first)
    for name, code in keys:
        table.put(name, code)
    table.start(second)
    if moved:
        table.move(moved)
    return table


class TestNames(ExactCase):

    def test_names(self):
        for thing in list(string.ascii_lowercase) + ["abcdefgh", "zzzzzzzz", "az", "none", "done"]:
            self.assertIs(is_name(thing), True)
            self.assertIs(is_name_in(thing, {thing: 0}), True)
            self.assertIs(is_name_in(thing, {}), False)
            self.assertIsNone(check_new_name(thing, {}))
            self.raises(DuplicateName, check_new_name, thing, {thing: 0})

    def test_all_signs(self):
        for number in range(128):
            self.assertIs(is_name(chr(number)), chr(number) in string.ascii_lowercase)
            self.assertIs(is_name("a" + chr(number)), chr(number) in string.ascii_lowercase)

    def test_objects_of_all_kinds(self):
        for thing in WRONG_NAMES + [thing for thing in odd_things() if not isinstance(thing, str)]:
            self.assertIs(is_name(thing), False)
            self.assertIs(is_name_in(thing, {0: 1, "": 2, None: 3}), False)
            self.raises(InvalidName, check_new_name, thing, {0: 1, "": 2, None: 3})


class TestExamples(ExactCase):

    def test_the_example(self):
        self.example("""
>>> from loosecursors.tables import Table, check_new_name, is_name, is_name_in
>>> table = Table(1)
>>> [table.put('a', 6), table.put('b', 3), table.start(2), table.move(1), table.put('c', 1)]
[None, None, None, None, None]
>>> [table.shape, table.at((0, 1)), table.at((1, 2)), table.is_moved('c'), table.moved]
[(1, 2), ['b'], ['a'], True, 1]
>>> [table.move(1), table.shape, table.at((0, 3)), table.is_moved('b')]
[None, (2,), ['b'], False]
""")


def draw_table_call(rand, table):
    """A call of a table, which raises an error now and then."""
    if rand.random() < 0.2:
        return rand.choice([
            ("put", rand.choice(POOL + WRONG_NAMES), rand.choice([3] + WRONG_HASHES)),
            ("drop", rand.choice(POOL + WRONG_NAMES)), ("start", rand.choice(WRONG_WIDTHS + [table.shape[0]])),
            ("move", rand.choice(WRONG_COUNTS)), ("start", rand.randrange(6)), ("move", rand.randrange(40))])
    left = 2 ** table.shape[0] - table.moved
    return rand.choice([
        ("put", rand.choice(POOL), rand.randrange(32)), ("put", rand.choice(POOL), rand.choice([0, 1, 31])),
        ("drop", rand.choice(POOL)), ("start", rand.choice([0, 1, 1, 2, 2, 3, 3, 4, 5])),
        ("move", rand.choice([1, 1, left, rand.randrange(left) + 1]))])


class TestDrawn(ExactCase):

    def check(self, seed, many, width):
        rand = random.Random(seed)
        pairs = [(Table(width), TableModel(width))]
        for _ in range(many):
            table, model = rand.choice(pairs)
            name, *args = draw_table_call(rand, model)
            found = outcome(getattr(table, name), *args)
            self.assertEqual(found, outcome(getattr(model, name), *args), (name, args))
            if rand.random() < 0.05:
                pairs = (pairs + [(table.copy(), model.copy())])[-3:]
            for one, other in pairs if rand.random() < 0.1 else [(table, model)]:
                self.assertEqual(table_shown(one), table_shown(other))
            for method in ("code_of", "is_moved"):
                thing = rand.choice(POOL + WRONG_NAMES)
                self.assertEqual(outcome(getattr(table, method), thing), outcome(getattr(model, method), thing))
            place = (rand.randrange(-1, 3), rand.randrange(-1, 33))
            self.assertEqual(outcome(table.at, place), outcome(model.at, place))

    def test_long_rows_of_calls(self):
        for seed in range(48):
            self.check(2900 + seed, 120, seed % 6)

    def test_every_move_of_every_shape(self):
        rand = random.Random(291)
        for shape in [shape for shape in SHAPES if len(shape) == 2]:
            table, model = Table(shape[0]), TableModel(shape[0])
            for name in POOL:
                code = rand.randrange(32)
                table.put(name, code)
                model.put(name, code)
            table.start(shape[1])
            model.start(shape[1])
            self.same([table.shape, table.moved], [shape, 0])
            while len(model.tables) == 2:
                self.assertEqual(table_shown(table), table_shown(model))
                count = rand.randrange(2 ** shape[0] - model.moved) + 1
                table.move(count)
                model.move(count)
            self.assertEqual(table_shown(table), table_shown(model))
            self.same([table.shape, table.moved], [(shape[1],), 0])

    def test_places_are_those_of_the_keys(self):
        rand = random.Random(292)
        for seed in range(40):
            table = Table(rand.randrange(4))
            for _ in range(40):
                name, *args = draw_table_call(rand, table)
                outcome(getattr(table, name), *args)
                for key in table.names:
                    place = place_of(table.shape, table.code_of(key), table.is_moved(key))
                    self.same([where for where in all_places(table.shape) if key in table.at(where)], [place])


class TestMoves(ExactCase):

    def test_one_bucket_several_and_all(self):
        for count, moved in [(1, 1), (3, 3), (7, 7)]:
            table = moving(3, 1)
            self.assertIsNone(table.move(count))
            self.same([table.shape, table.moved], [(3, 1), moved])
        table = moving(3, 1)
        self.assertIsNone(table.move(8))
        self.same([table.shape, table.moved], [(1,), 0])
        table = moving(3, 1)
        for number in range(1, 8):
            table.move(1)
            self.same([table.shape, table.moved], [(3, 1), number])
        table.move(1)
        self.same([table.shape, table.moved], [(1,), 0])

    def test_width_0_is_moved_at_once(self):
        table = Table(0)
        table.put("a", 31)
        table.start(5)
        self.same([table.shape, table.at((0, 0)), table.at((1, 31))], [(0, 5), ["a"], []])
        table.move(1)
        self.same([table.shape, table.at((0, 31)), table.is_moved("a")], [(5,), ["a"], False])
        table.start(0)
        table.move(31)
        self.same([table.shape, table.moved, table.is_moved("a"), table.at((0, 31))], [(5, 0), 31, False, ["a"]])
        table.move(1)
        self.same([table.shape, table.at((0, 0)), table.is_moved("a")], [(0,), ["a"], False])

    def test_keys_are_moved_with_their_buckets(self):
        table = moving(2, 1, 0, [("a", 0), ("b", 5), ("c", 2), ("d", 7), ("e", 1)])
        moved = []
        for _ in range(3):
            table.move(1)
            moved.append([name for name in table.names if table.is_moved(name)])
        self.same(moved, [["a"], ["a", "b", "e"], ["a", "b", "c", "e"]])
        self.same([table.at((1, 0)), table.at((1, 1)), table.at((0, 3)), table.at((0, 0))],
                  [["a", "c"], ["b", "e"], ["d"], []])

    def test_keys_put_while_it_moves_are_in_table_1(self):
        table = moving(2, 3, 1)
        for name, code in [("a", 0), ("b", 1), ("c", 3), ("d", 31)]:
            table.put(name, code)
            self.assertIs(table.is_moved(name), True)
        self.same([table.at((1, 0)), table.at((1, 1)), table.at((1, 3)), table.at((1, 7)), table.at((0, 1))],
                  [["a"], ["b"], ["c"], ["d"], []])
        table.move(3)
        self.same([table.is_moved(name) for name in "abcd"], [False] * 4)
        self.same([table.at((0, 0)), table.at((0, 1)), table.at((0, 3)), table.at((0, 7))], [["a"], ["b"], ["c"], ["d"]])

    def test_keys_put_ahead_of_the_first_move(self):
        table = moving(1, 0)
        table.put("a", 1)
        self.same([table.is_moved("a"), table.moved, table.at((1, 0)), table.at((0, 1))], [True, 0, ["a"], []])

    def test_keys_dropped_in_either_table(self):
        table = moving(1, 2, 1, [("a", 0), ("b", 1)])
        self.same([table.is_moved("a"), table.is_moved("b")], [True, False])
        self.same([table.drop("a"), table.drop("b"), table.names], [None, None, []])
        for place in all_places((1, 2)):
            self.same(table.at(place), [])
        table.put("a", 3)
        self.same([table.names, table.code_of("a"), table.is_moved("a")], [["a"], 3, True])

    def test_several_moves_one_after_another(self):
        table = Table(0)
        table.put("a", 21)
        for width in (1, 3, 5, 2, 4, 0, 5, 0):
            table.start(width)
            table.move(2 ** table.shape[0])
            self.same([table.shape, table.at((0, 21 % 2 ** width)), table.is_moved("a")], [(width,), ["a"], False])

    def test_names_in_ascending_order(self):
        table = Table(0)
        for name in ["m", "z", "a", "aa", "zz", "b", "mmmmmmmm"]:
            table.put(name, 4)
        self.same(table.names, ["a", "aa", "b", "m", "mmmmmmmm", "z", "zz"])
        self.same(table.at((0, 0)), ["a", "aa", "b", "m", "mmmmmmmm", "z", "zz"])


class TestErrors(ExactCase):

    def fails(self, table, error, method, *args):
        before = table_shown(table)
        self.raises(error, getattr(table, method), *args)
        self.assertEqual(table_shown(table), before)

    def tables(self):
        one = Table(1)
        one.put("a", 6)
        one.put("b", 3)
        return [one, moving(1, 2, 0, [("a", 6), ("b", 3)]), moving(1, 2, 1, [("a", 6), ("b", 3)]),
                moving(1, 5, 2, [("a", 6), ("b", 3)]), moving(3, 0, 7, [("a", 6), ("b", 3)])]

    def test_the_constructor(self):
        for width in WRONG_WIDTHS + [thing for thing in odd_things() if thing.__class__ is not int]:
            self.raises(InvalidWidth, Table, width)
        for width in WIDTHS:
            self.same([Table(width).shape, Table(width).names, Table(width).moved], [(width,), [], 0])

    def test_put(self):
        for table in self.tables():
            for name in WRONG_NAMES:
                for code in [0] + WRONG_HASHES:
                    self.fails(table, InvalidName, "put", name, code)
            for code in [0] + WRONG_HASHES:
                self.fails(table, DuplicateName, "put", "a", code)
            for code in WRONG_HASHES:
                self.fails(table, InvalidHash, "put", "c", code)

    def test_drop_and_what_is_asked_of_keys(self):
        for table in self.tables():
            for name in WRONG_NAMES + ["c", "ab", "aa"] + odd_things():
                if name != "a":
                    for method in ("drop", "code_of", "is_moved"):
                        self.fails(table, UnknownName, method, name)
            table.drop("a")
            for method in ("drop", "code_of", "is_moved"):
                self.fails(table, UnknownName, method, "a")

    def test_start(self):
        for table in self.tables():
            for width in WRONG_WIDTHS:
                self.fails(table, InvalidWidth, "start", width)
            if len(table.shape) == 1:
                self.fails(table, InvalidWidth, "start", table.shape[0])
        for table in self.tables()[1:]:
            if len(table.shape) == 2:
                for width in WIDTHS:
                    self.fails(table, Moving, "start", width)

    def test_a_start_with_its_own_width(self):
        for width in WIDTHS:
            self.fails(Table(width), InvalidWidth, "start", width)
        table = moving(3, 4)
        for width in (3, 4, 0, 5):
            self.fails(table, Moving, "start", width)
        table.move(8)
        self.fails(table, InvalidWidth, "start", 4)
        self.assertIsNone(table.start(3))

    def test_move(self):
        for table in self.tables():
            left = 2 ** table.shape[0] - table.moved if len(table.shape) == 2 else 0
            for count in WRONG_COUNTS + [left + 1, left + 2]:
                self.fails(table, InvalidNumber, "move", count)
            if len(table.shape) == 1:
                for count in range(1, 34):
                    self.fails(table, InvalidNumber, "move", count)
            for count in odd_things():
                if count.__class__ is not int:
                    self.fails(table, InvalidNumber, "move", count)

    def test_at(self):
        for table in self.tables():
            for place in odd_things() + [(2, 0), (-1, 0), (0, -1), (0, 2 ** table.shape[0]), (1, 2 ** table.shape[-1]),
                                         (0, 32), (1, 32), (True, 0), (0, False), (0, 0, 0), (0,), [0, 0], "0.0", None]:
                if not is_place(table.shape, place):
                    self.fails(table, InvalidPlace, "at", place)
            if len(table.shape) == 1:
                for number in range(32):
                    self.fails(table, InvalidPlace, "at", (1, number))


class TestCopies(ExactCase):

    def test_a_copy_is_in_the_same_state_and_independent(self):
        table = moving(1, 2, 1, [("a", 6), ("b", 3)])
        other = table.copy()
        self.assertIsInstance(other, Table)
        third = other.copy()
        self.assertEqual(table_shown(other), table_shown(table))
        other.drop("a")
        other.put("c", 0)
        other.move(1)
        self.same([table.shape, table.names, table.moved, table.at((1, 2))], [(1, 2), ["a", "b"], 1, ["a"]])
        self.same([other.shape, other.names], [(2,), ["b", "c"]])
        table.put("d", 5)
        self.same([third.names, third.shape], [["a", "b"], (1, 2)])


class TestArguments(ExactCase):

    def test_returned_lists_are_new(self):
        table = moving(1, 2, 1, [("a", 6), ("b", 3)])
        before = table_shown(table)
        for _ in range(2):
            table.names.append("spoilt")
            table.names.clear()
            for place in all_places((1, 2)):
                table.at(place).append("spoilt")
            self.assertEqual(table_shown(table), before)

    def test_methods_return_none(self):
        table = Table(0)
        self.same([table.put("a", 1), table.start(1), table.move(1), table.drop("a")], [None] * 4)

    def test_by_name_in_another_order(self):
        table = Table(width=1)
        self.assertIsNone(table.put(code=6, name="a"))
        self.same([table.code_of(name="a"), table.is_moved(name="a"), table.at(place=(0, 0))], [6, False, ["a"]])
        table.start(width=2)
        table.move(count=1)
        self.same(table.is_moved(name="a"), True)
        table.drop(name="a")
        self.raises(InvalidName, table.put, code=None, name="A")
        self.raises(InvalidWidth, Table, width=6)

    def test_asking_changes_nothing(self):
        table = moving(1, 2, 1, [("a", 6), ("b", 3)])
        before = table_shown(table)
        self.assertEqual(table_shown(table), before)
        self.assertEqual(exact(table.at((1, 2))), exact(table.at((1, 2))))


if __name__ == "__main__":
    unittest.main()
