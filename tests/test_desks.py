"""Desks, against a model that keeps the runs of all keys."""

import random
import unittest

from loosecursors.desks import Desk
from loosecursors.errors import (DuplicateName, InvalidHash, InvalidName, InvalidNumber, InvalidWidth, Moving, NothingToUndo,
                                 Over, UnknownLabel, UnknownName, UnknownShape)
from loosecursors.makers import counting, reversed_bits
from loosecursors.missed import missed_run
from loosecursors.roads import Road, full_road
from loosecursors.rules import Rule
from loosecursors.runs import is_run, is_whole, listed
from loosecursors.texts import parse_rule
from tests.helpers import (SHAPES, WIDTHS, WRONG_HASHES, WRONG_NAMES, WRONG_NUMBERS, WRONG_WIDTHS, DeskModel, ExactCase,
                           desk_shown, draw_rule, exact, odd_things, outcome, spoil_all)

POOL = ["a", "b", "c", "d", "e", "f", "key", "zzzzzzzz"]
LABELS = ["one", "two", "x", "labelled"]
ZERO, ONE, TWO, UP, DOWN = (0,), (1,), (2,), (0, 1), (1, 0)
SMALL = [shape for shape in SHAPES if max(shape) < 3]


def small_rule():
    return parse_rule("cursors 2\nshape 0\ncall 0.0 end\ncall end\nshape 1\ncall 0.0 next 1\ncall 0.1 end")


def draw_call_on(rand, desk):
    """The name and the arguments of a call on a desk, which raises an error now and then."""
    if rand.random() < 0.12:
        return rand.choice([
            ("put", rand.choice(POOL + WRONG_NAMES), rand.choice([3] + WRONG_HASHES)),
            ("drop", rand.choice(WRONG_NAMES + ["none"])), ("start", rand.choice(WRONG_WIDTHS + [desk.shape[0]])),
            ("move", rand.choice(WRONG_NUMBERS + [0, 33])), ("enter", rand.choice(WRONG_NAMES + LABELS)),
            ("step", rand.choice(WRONG_NAMES + ["none"])), ("start", rand.randrange(6))])
    left = 2 ** desk.shape[0] - desk.moved
    return rand.choice([
        ("put", rand.choice(POOL), rand.randrange(32)), ("put", rand.choice(POOL), rand.randrange(4)),
        ("drop", rand.choice(POOL)), ("start", rand.choice([0, 1, 2])), ("start", rand.choice([0, 1, 2])),
        ("move", 1), ("move", rand.randrange(left) + 1), ("enter", rand.choice(LABELS)),
        ("step", rand.choice(LABELS)), ("step", rand.choice(LABELS)), ("step", rand.choice(LABELS)), ("undo",)])


class TestExamples(ExactCase):

    def test_the_example(self):
        self.example("""
>>> from loosecursors.desks import Desk
>>> from loosecursors.makers import reversed_bits
>>> desk = Desk(reversed_bits([(0,), (1,), (1, 0)]), 1)
>>> [desk.put('a', 2), desk.put('b', 5), desk.enter('one'), desk.step('one'), desk.start(0), desk.step('one'), desk.is_over('one')]
[None, None, None, ['a'], None, ['a', 'b'], True]
>>> [desk.told('one'), desk.run_of('one', 'b'), len(desk)]
[{'a': 2, 'b': 1}, [((1,), False), ((1, 0), False)], 6]
""")


class TestDrawn(ExactCase):

    def check(self, seed, many, rule, width):
        rand = random.Random(seed)
        pairs = [(Desk(rule, width), DeskModel(rule, width))]
        kinds = {}
        for _ in range(many):
            desk, model = rand.choice(pairs)
            before = [desk_shown(other, LABELS) for other, _ in pairs]
            at = pairs.index((desk, model))
            name, *args = draw_call_on(rand, model)
            found = outcome(getattr(desk, name), *args)
            self.assertEqual(found, outcome(getattr(model, name), *args), (name, args))
            kinds[(name, found[:2])] = kinds.get((name, found[:2]), 0) + 1
            for index, (other, beside) in enumerate(pairs):
                if index != at:
                    self.assertEqual(desk_shown(other, LABELS), before[index])
            self.assertEqual(desk_shown(desk, LABELS), desk_shown(model, LABELS))
            if rand.random() < 0.04:
                pairs = (pairs + [(desk.copy(), model.copy())])[-3:]
        for desk, model in pairs:
            self.assertIs(desk.rule == rule, True)
            while len(model):
                self.assertIsNone(desk.undo())
                model.undo()
                if len(model) < 5 or rand.random() < 0.2:
                    self.assertEqual(desk_shown(desk, LABELS), desk_shown(model, LABELS))
            self.raises(NothingToUndo, desk.undo)
            self.assertEqual(desk_shown(desk, LABELS), desk_shown(model, LABELS))
        return kinds

    def test_reversed_bits(self):
        for seed in range(12):
            self.check(3000 + seed, 120, reversed_bits(SMALL), seed % 3)

    def test_counting(self):
        for seed in range(8):
            self.check(3100 + seed, 120, counting(SMALL), seed % 3)

    def test_drawn_rules(self):
        totals = {}
        for seed in range(30):
            rand = random.Random(3200 + seed)
            shapes = SMALL if seed % 2 else rand.sample(SMALL, 6) + [(0,)]
            rule = draw_rule(rand, sorted(set(shapes)), rand.randrange(1, 7))
            for kind, number in self.check(3300 + seed, 100, rule, 0).items():
                totals[kind] = totals.get(kind, 0) + number
        for name in ("put", "drop", "start", "move", "enter", "undo"):
            self.assertGreater(totals[(name, "No")], 30, totals)
            if name != "undo":
                self.assertGreater(totals[(name, "['")], 10, totals)
        self.assertGreater(totals[("step", "[]")] + totals[("step", "['")], 100, totals)


class TestListings(ExactCase):

    def test_a_change_of_width_in_the_midst_of_a_listing(self):
        desk = Desk(reversed_bits([ONE, TWO, (1, 2), (2, 1)]), 2)
        for name, code in [("a", 0), ("b", 1), ("c", 2), ("d", 3)]:
            desk.put(name, code)
        desk.enter("one")
        self.same(desk.step("one"), ["a"])
        desk.start(1)
        desk.move(4)
        self.same([desk.shape, desk.step("one")], [ONE, ["a", "c"]])
        self.same([desk.is_over("one"), desk.step("one"), desk.is_over("one")], [False, ["b", "d"], True])
        self.same(desk.told("one"), {"a": 2, "b": 1, "c": 1, "d": 1})
        self.same(desk.run_of("one", "c"), [(TWO, False), (ONE, False), (ONE, False)])

    def test_moves_between_calls(self):
        desk = Desk(reversed_bits([ONE, TWO, (1, 2)]), 1)
        desk.put("a", 0)
        desk.put("b", 1)
        desk.enter("one")
        desk.start(2)
        desk.move(1)
        self.same(desk.step("one"), ["a"])
        self.same([desk.run_of("one", "a"), desk.run_of("one", "b")], [[((1, 2), True)], [((1, 2), False)]])
        desk.move(1)
        self.same(desk.shape, TWO)
        self.same(desk.step("one"), ["b"])
        self.same(desk.run_of("one", "b"), [((1, 2), False), (TWO, False)])

    def test_a_rule_that_misses_a_key(self):
        desk = Desk(Rule(2, {**small_rule().calls, DOWN: [((), 1), ((), None)]}), 1)
        desk.put("a", 3)
        desk.enter("one")
        self.same(desk.step("one"), [])
        desk.start(0)
        desk.move(2)
        self.same([desk.step("one"), desk.is_over("one")], [[], True])
        self.same([desk.told("one"), desk.stayed("one")], [{}, ["a"]])
        self.same(desk.run_of("one", "a"), [(ONE, False), (ZERO, False)])

    def test_keys_dropped_and_put_again(self):
        desk = Desk(counting([TWO]), 2)
        desk.put("a", 0)
        desk.put("b", 3)
        desk.enter("one")
        self.same(desk.step("one"), ["a"])
        desk.drop("a")
        desk.put("a", 2)
        desk.put("c", 1)
        self.same([desk.stayed("one"), desk.told("one")], [["b"], {"a": 1}])
        self.same([desk.step("one"), desk.step("one"), desk.step("one")], [["c"], ["a"], ["b"]])
        self.same([desk.stayed("one"), desk.told("one")], [["b"], {"a": 2, "b": 1, "c": 1}])
        for name in ("a", "c", "d"):
            self.raises(UnknownName, desk.run_of, "one", name)
        self.same(desk.run_of("one", "b"), [(TWO, False)] * 4)

    def test_a_key_that_is_dropped_behind_the_end(self):
        desk = Desk(counting([ZERO]), 0)
        desk.put("a", 0)
        desk.put("b", 0)
        desk.enter("one")
        self.same([desk.step("one"), desk.is_over("one")], [["a", "b"], True])
        desk.drop("a")
        self.same([desk.stayed("one"), desk.told("one")], [["b"], {"a": 1, "b": 1}])
        desk.put("a", 0)
        self.same([desk.stayed("one"), desk.told("one")], [["b"], {"a": 1, "b": 1}])
        self.raises(UnknownName, desk.run_of, "one", "a")
        desk.undo()
        desk.undo()
        self.same([desk.stayed("one"), desk.run_of("one", "a")], [["a", "b"], [(ZERO, False)]])

    def test_a_key_put_behind_the_beginning_has_not_stayed(self):
        desk = Desk(counting([ONE]), 1)
        desk.enter("one")
        desk.put("a", 0)
        desk.enter("two")
        self.same([desk.stayed("one"), desk.stayed("two")], [[], ["a"]])
        self.same([desk.step("one"), desk.step("two")], [["a"], ["a"]])
        self.same([desk.told("one"), desk.told("two")], [{"a": 1}, {"a": 1}])
        self.raises(UnknownName, desk.run_of, "one", "a")

    def test_the_list_of_a_run_is_empty_at_first(self):
        desk = Desk(counting([ONE]), 1)
        desk.put("a", 0)
        desk.enter("one")
        self.same([desk.run_of("one", "a"), desk.told("one"), desk.stayed("one"), desk.is_over("one")], [[], {}, ["a"], False])

    def test_several_listings_in_turns(self):
        desk = Desk(counting([TWO]), 2)
        for number, name in enumerate("abcd"):
            desk.put(name, number)
        desk.enter("one")
        desk.step("one")
        desk.enter("two")
        self.same([desk.step("two"), desk.step("one"), desk.step("one"), desk.step("two"), desk.step("one")],
                  [["a"], ["b"], ["c"], ["b"], ["d"]])
        self.same([desk.is_over("one"), desk.is_over("two")], [True, False])
        self.raises(Over, desk.step, "one")
        self.raises(DuplicateName, desk.enter, "one")
        self.same([len(desk.run_of("one", "a")), len(desk.run_of("two", "a"))], [4, 2])
        self.same([desk.step("two"), desk.step("two"), desk.is_over("two")], [["c"], ["d"], True])

    def test_two_tables_listed_at_once(self):
        rule = Rule(1, {ONE: [((), 0)], TWO: [((), 0)], (1, 2): [(((0, 0), (0, 1), (1, 0), (1, 1), (1, 2), (1, 3)), None)]})
        desk = Desk(rule, 1)
        for number, name in enumerate(["z", "y", "x", "w"]):
            desk.put(name, number)
        desk.start(2)
        desk.move(1)
        desk.enter("one")
        self.same([desk.step("one"), desk.told("one")], [["w", "x", "y", "z"], {"w": 1, "x": 1, "y": 1, "z": 1}])

    def test_several_hundred_steps_and_all_of_them_taken_back(self):
        desk = Desk(Rule(1, {ONE: [(((0, 1),), 0)]}), 1)
        desk.put("a", 1)
        desk.put("b", 0)
        desk.enter("one")
        for number in range(600):
            self.same(desk.step("one"), ["a"])
        self.same([desk.told("one"), len(desk.run_of("one", "b")), len(desk)], [{"a": 600}, 600, 603])
        for number in range(600):
            self.assertIsNone(desk.undo())
        self.same([desk.told("one"), desk.run_of("one", "b"), len(desk)], [{}, [], 3])
        for _ in range(3):
            desk.undo()
        self.same([len(desk), desk.names, desk.shape], [0, [], ONE])
        self.raises(UnknownLabel, desk.told, "one")
        self.raises(NothingToUndo, desk.undo)


class TestUndo(ExactCase):

    def test_behind_each_kind_of_call(self):
        desk = Desk(reversed_bits(SMALL), 1)
        shown = [desk_shown(desk, LABELS)]
        for name, *args in [("put", "a", 3), ("put", "b", 0), ("enter", "one"), ("step", "one"), ("start", 2),
                            ("move", 1), ("put", "c", 5), ("step", "one"), ("enter", "two"), ("move", 1), ("drop", "a"),
                            ("step", "two"), ("start", 0), ("drop", "b"), ("move", 4), ("step", "two")]:
            getattr(desk, name)(*args)
            shown.append(desk_shown(desk, LABELS))
            self.assertIsNone(desk.undo())
            self.assertEqual(desk_shown(desk, LABELS), shown[-2])
            getattr(desk, name)(*args)
            self.assertEqual(desk_shown(desk, LABELS), shown[-1])
        for before in shown[-2::-1]:
            desk.undo()
            self.assertEqual(desk_shown(desk, LABELS), before)
        self.raises(NothingToUndo, desk.undo)

    def test_a_call_that_raises_an_error_is_not_undone(self):
        desk = Desk(counting([ONE]), 1)
        desk.put("a", 1)
        self.raises(DuplicateName, desk.put, "a", 2)
        self.raises(UnknownShape, desk.start, 2)
        self.raises(InvalidNumber, desk.move, 1)
        self.raises(UnknownLabel, desk.step, "one")
        self.same(len(desk), 1)
        desk.undo()
        self.same([desk.names, len(desk)], [[], 0])

    def test_a_step_that_tells_nothing_and_one_that_ends(self):
        desk = Desk(counting([ONE]), 1)
        desk.enter("one")
        self.same([desk.step("one"), desk.step("one"), desk.is_over("one"), len(desk)], [[], [], True, 3])
        self.raises(Over, desk.step, "one")
        desk.undo()
        self.same([desk.is_over("one"), desk.step("one"), desk.is_over("one")], [False, [], True])

    def test_a_label_is_free_again(self):
        desk = Desk(counting([ONE]), 1)
        desk.enter("one")
        desk.undo()
        self.raises(UnknownLabel, desk.is_over, "one")
        desk.put("a", 0)
        desk.enter("one")
        self.same(desk.stayed("one"), ["a"])


class TestErrors(ExactCase):

    def fails(self, desk, error, method, *args):
        before = desk_shown(desk, LABELS)
        self.raises(error, getattr(desk, method), *args)
        self.assertEqual(desk_shown(desk, LABELS), before)

    def desks(self):
        rule = reversed_bits([ZERO, ONE, TWO, (1, 2), (2, 1), UP])
        found = []
        for calls in [[], [("start", 2)], [("start", 2), ("move", 1)]]:
            desk = Desk(rule, 1)
            for name, *args in [("put", "a", 6), ("put", "b", 3), ("enter", "one"), ("enter", "two"), ("step", "one")]:
                getattr(desk, name)(*args)
            for _ in range(2):
                desk.step("two")
            for name, *args in calls:
                getattr(desk, name)(*args)
            found.append(desk)
        return found + [desk.copy() for desk in found]

    def test_the_constructor(self):
        rule = counting([ONE, UP, DOWN])
        for width in WRONG_WIDTHS:
            self.raises(InvalidWidth, Desk, rule, width)
        for width in (0, 2, 3, 4, 5):
            self.raises(UnknownShape, Desk, rule, width)
        self.same(Desk(rule, 1).shape, ONE)
        for thing in odd_things():
            if thing.__class__ is not int or not 0 <= thing <= 5:
                self.raises(InvalidWidth, Desk, rule, thing)

    def test_put_and_drop(self):
        for desk in self.desks():
            for name in WRONG_NAMES:
                for code in [0] + WRONG_HASHES:
                    self.fails(desk, InvalidName, "put", name, code)
                self.fails(desk, UnknownName, "drop", name)
            for code in [0] + WRONG_HASHES:
                self.fails(desk, DuplicateName, "put", "b", code)
            for code in WRONG_HASHES:
                self.fails(desk, InvalidHash, "put", "c", code)
            for name in ["c", "ab"] + [thing for thing in odd_things() if thing != "a"]:
                self.fails(desk, UnknownName, "drop", name)

    def test_start(self):
        for desk in self.desks():
            for width in WRONG_WIDTHS + [thing for thing in odd_things() if thing.__class__ is not int]:
                self.fails(desk, InvalidWidth, "start", width)
            if len(desk.shape) == 2:
                for width in WIDTHS:
                    self.fails(desk, Moving, "start", width)
            else:
                self.fails(desk, InvalidWidth, "start", 1)
                for width in (0, 3, 4, 5):
                    self.fails(desk, UnknownShape, "start", width)
                self.assertIsNone(desk.start(2))

    def test_rules_that_lack_a_shape(self):
        for shapes, width in [([ONE], 2), ([ONE, (1, 2)], 2), ([ONE, TWO], 2), ([ONE, TWO, (2, 1)], 2), ([ONE, UP, ZERO], 0)]:
            desk = Desk(counting(shapes), 1)
            self.fails(desk, UnknownShape, "start", width)
            self.same([desk.shape, len(desk)], [ONE, 0])
            self.fails(desk, InvalidWidth, "start", 1)
        desk = Desk(counting([ONE, TWO, (1, 2)]), 1)
        desk.start(2)
        self.fails(desk, Moving, "start", 5)
        desk.move(2)
        self.fails(desk, UnknownShape, "start", 1)

    def test_move(self):
        for desk in self.desks():
            left = 2 ** desk.shape[0] - desk.moved if len(desk.shape) == 2 else 0
            for count in WRONG_NUMBERS + [0, left + 1, 33] + [thing for thing in odd_things() if thing.__class__ is not int]:
                self.fails(desk, InvalidNumber, "move", count)

    def test_enter(self):
        for desk in self.desks():
            for label in WRONG_NAMES + [thing for thing in odd_things() if not isinstance(thing, str)]:
                self.fails(desk, InvalidName, "enter", label)
            for label in ("one", "two"):
                self.fails(desk, DuplicateName, "enter", label)
            self.assertIsNone(desk.enter("a"))

    def test_labels_that_are_unknown(self):
        for desk in self.desks():
            for label in WRONG_NAMES + ["x", "a", "on"] + [thing for thing in odd_things() if not isinstance(thing, str)]:
                for method in ("step", "told", "stayed", "is_over"):
                    self.fails(desk, UnknownLabel, method, label)
                for name in ["a", "c"] + WRONG_NAMES[:3]:
                    self.fails(desk, UnknownLabel, "run_of", label, name)

    def test_over(self):
        for desk in self.desks():
            self.same([desk.is_over("one"), desk.is_over("two")], [False, True])
            self.fails(desk, Over, "step", "two")

    def test_names_that_have_not_stayed(self):
        for desk in self.desks():
            for name in WRONG_NAMES + ["c", "one"] + [thing for thing in odd_things() if thing != "a"]:
                for label in ("one", "two"):
                    self.fails(desk, UnknownName, "run_of", label, name)
            desk.drop("a")
            desk.put("c", 1)
            for name in ("a", "c"):
                self.fails(desk, UnknownName, "run_of", "one", name)


class TestCopies(ExactCase):

    def test_a_copy_is_in_the_same_state_and_independent(self):
        desk = Desk(counting([ONE, ZERO, DOWN]), 1)
        desk.put("a", 1)
        desk.enter("one")
        desk.step("one")
        desk.start(0)
        other = desk.copy()
        self.assertIsInstance(other, Desk)
        self.assertIs(other.rule == desk.rule, True)
        self.assertEqual(desk_shown(other, LABELS), desk_shown(desk, LABELS))
        third = other.copy()
        before = desk_shown(desk, LABELS)
        other.drop("a")
        other.move(2)
        other.enter("two")
        self.assertEqual(desk_shown(desk, LABELS), before)
        for _ in range(7):
            other.undo()
        self.raises(NothingToUndo, other.undo)
        self.assertEqual(desk_shown(third, LABELS), before)
        third.undo()
        third.undo()
        self.same([third.run_of("one", "a"), third.step("one"), third.step("one")], [[], [], ["a"]])
        self.assertEqual(desk_shown(desk, LABELS), before)

    def test_a_copy_of_each_shape(self):
        for shape in SHAPES:
            desk = Desk(reversed_bits(list({shape[:1], shape, shape[-1:]})), shape[0])
            if len(shape) == 2:
                desk.start(shape[1])
            self.same([desk.copy().shape, len(desk.copy())], [shape, len(desk)])


class TestArguments(ExactCase):

    def test_what_is_returned_is_new(self):
        desk = Desk(counting([ONE]), 1)
        desk.put("a", 1)
        desk.put("b", 0)
        desk.enter("one")
        first = desk.step("one")
        before = desk_shown(desk, LABELS)
        spoil_all(first)
        for _ in range(2):
            for found in (desk.names, desk.told("one"), desk.stayed("one"), desk.run_of("one", "a"), desk.rule.calls,
                          desk.rule.shapes):
                spoil_all(found)
            self.assertEqual(desk_shown(desk, LABELS), before)
        self.assertIs(desk.rule == counting([ONE]), True)

    def test_told_is_in_ascending_order(self):
        desk = Desk(counting([TWO]), 2)
        for name, code in [("z", 0), ("m", 1), ("a", 2), ("b", 3)]:
            desk.put(name, code)
        desk.enter("one")
        for _ in range(4):
            desk.step("one")
        self.same(desk.told("one"), {"a": 1, "b": 1, "m": 1, "z": 1})

    def test_calls_return_none(self):
        desk = Desk(reversed_bits(SMALL), 1)
        self.same([desk.put("a", 1), desk.enter("one"), desk.start(2), desk.move(2), desk.drop("a"), desk.undo()], [None] * 6)

    def test_the_rule_is_as_before(self):
        rule = reversed_bits(SMALL)
        before = exact((rule.cursors, rule.calls))
        desk = Desk(rule, 1)
        self.assertIsNot(desk.rule, rule)
        for name, *args in [("put", "a", 1), ("enter", "one"), ("step", "one"), ("start", 0), ("move", 2), ("step", "one")]:
            getattr(desk, name)(*args)
        self.assertEqual(exact((rule.cursors, rule.calls)), before)
        self.assertEqual(exact((desk.rule.cursors, desk.rule.calls)), before)

    def test_by_name_in_another_order(self):
        desk = Desk(width=1, rule=reversed_bits([ONE, TWO, (1, 2)]))
        desk.put(code=6, name="a")
        desk.enter(label="one")
        self.same(desk.step(label="one"), ["a"])
        desk.start(width=2)
        desk.move(count=1)
        self.same([desk.told(label="one"), desk.stayed(label="one"), desk.is_over(label="one")], [{"a": 1}, ["a"], False])
        self.same(desk.run_of(name="a", label="one"), [(ONE, False)])
        desk.drop(name="a")
        self.raises(UnknownName, desk.run_of, name="a", label="one")
        self.raises(UnknownLabel, desk.run_of, name="a", label="two")
        self.raises(UnknownShape, Desk, width=0, rule=counting([ONE]))


class TestFacts(ExactCase):

    def check(self, rand, rule, desk, misses_nothing):
        """All keys that have stayed: their runs are runs, list as often as told, and are whole if it is over."""
        road = full_road(rule.shapes)
        codes = {name: code for name, code in self.codes.items() if name in desk.stayed("one")}
        for name, code in codes.items():
            run = desk.run_of("one", name)
            told = desk.told("one").get(name, 0)
            if run:
                self.assertIs(is_run(rule, road, run), True)
                self.same(listed(rule, road, run, code).count(True), told)
                self.assertIs(is_whole(rule, road, run), desk.is_over("one"))
            if desk.is_over("one") and (misses_nothing or missed_run(rule, road, code) is None):
                self.assertGreater(told, 0)

    def play(self, seed, rule, width, misses_nothing):
        rand = random.Random(seed)
        desk = Desk(rule, width)
        self.codes = {name: rand.randrange(32) for name in POOL}
        for name, code in self.codes.items():
            desk.put(name, code)
        desk.enter("one")
        for _ in range(60):
            # A listing that ended a while ago is gone through no further.
            if desk.is_over("one") and rand.random() < 0.3:
                break
            name, *args = rand.choice([("step", "one"), ("step", "one"), ("start", rand.randrange(3)), ("move", 1),
                                       ("move", 2), ("drop", rand.choice(POOL))] if rand.random() < 0.9 else [("undo",)])
            if len(desk) > len(POOL) + 1 or name != "undo":
                outcome(getattr(desk, name), *args)
            self.check(rand, rule, desk, misses_nothing)
        return desk.is_over("one") and bool(desk.stayed("one"))

    def test_reversed_bits_tell_every_key_that_stayed(self):
        over = sum([self.play(3400 + seed, reversed_bits(SMALL), seed % 3, True) for seed in range(40)])
        self.assertGreater(over, 10)

    def test_other_rules_tell_a_key_as_often_as_its_run_lists_its_hash(self):
        for seed in range(30):
            self.play(3500 + seed, counting(SMALL), seed % 3, False)
            rule = draw_rule(random.Random(3600 + seed), SMALL, 5)
            self.play(3700 + seed, rule, seed % 3, False)

    def test_a_key_whose_hash_no_run_misses_has_been_told(self):
        rule = counting([ONE, TWO, (1, 2)])
        grown = Rule(4, {**rule.calls, (1, 2): reversed_bits([ONE, TWO, (1, 2)]).calls[(1, 2)]})
        road = Road([ONE], [(ONE, TWO)])
        for code in range(32):
            self.assertIsNone(missed_run(grown, road, code))
        desk = Desk(grown, 1)
        for code in range(26):
            desk.put(chr(97 + code), code)
        desk.enter("one")
        desk.step("one")
        desk.start(2)
        desk.move(2)
        while not desk.is_over("one"):
            desk.step("one")
        self.same(sorted(desk.told("one")), desk.stayed("one"))


if __name__ == "__main__":
    unittest.main()
