"""A board, against a model that copies everything."""

import copy
import random
import unittest

from loosecursors.board import Board
from loosecursors.errors import (CursorError, DuplicateName, Endless, InvalidCommand, InvalidHash, InvalidName,
                                 InvalidNumber, InvalidWidth, Moving, Over, ParseError, UnknownLabel, UnknownMark,
                                 UnknownName, UnknownShape)
from loosecursors.makers import counting, reversed_bits
from loosecursors.rules import Rule
from loosecursors.texts import format_rule
from tests.helpers import (ITEMS, SHAPES, WRONG_HASHES, WRONG_NAMES, WRONG_NUMBERS, WRONG_WIDTHS, BoardModel, ExactCase,
                           board_shown, draw_rule, exact, odd_things, outcome, spoil_all)

ZERO, ONE, TWO, UP, DOWN = (0,), (1,), (2,), (0, 1), (1, 0)
SMALL = [shape for shape in SHAPES if max(shape) < 3]
TEXT = "cursors 2\nshape 0\ncall 0.0 end\ncall end\nshape 1\ncall 0.0 next 1\ncall 0.1 end"
# It goes on for ever with one bucket, and ends with two.
LOOP = "cursors 2\nshape 0\ncall 0.0 next 1\ncall next 0\nshape 0>1\ncall next 1\ncall next 1\n" \
       "shape 1\ncall 0.0 next 1\ncall 0.1 end\nshape 1>0\ncall 0.0 next 1\ncall 0.1 1.0 end"
NAMES = ["main", "side"]
KEYS = ["a", "b", "c", "d", "main"]
LABELS = ["one", "two", "main"]
COMMANDS = sorted(ITEMS)
WRONG_TEXTS = [("", 0), ("cursors 0", 0), ("cursors 1", 1), ("cursors 1\n", 1), (TEXT + "\n", 7), (TEXT[:-4], 6),
               ("cursors 2\nshape 0\ncall 0.0 end", 3), (None, 0), (True, 0), (0, 0), ((), 0), ([TEXT], 0), ({}, 0),
               ("cursors 1\nshape 0\ncall 0.1 end", 2), (TEXT.upper(), 0), ("cursors 1\nshape 0\ncall  end", 2)]


def small_board(begin=True):
    """A board with two desks, keys, two listings, of which one has ended, and a mark."""
    board = Board()
    board.create("main", TEXT, 1)
    board.create("loop", LOOP, 1)
    for name in ("main", "loop"):
        board.deposit(name, "a", 4)
        board.deposit(name, "b", 7)
        for label in ("one", "over"):
            board.enlist(name, label)
        board.finish(name, "over")
    board.mark("kept")
    return board


def shown(board, log=True):
    return board_shown(board, LABELS + ["over"], log)


def draw_name(rand, among, wrong):
    """One of some names, or now and then a wrong one."""
    return rand.choice(among if rand.random() > wrong else among + WRONG_NAMES)


def draw_command(rand, model, wrong=0.03):
    """The name of a command and its arguments."""
    name, label = draw_name(rand, NAMES, wrong), draw_name(rand, LABELS, wrong)
    key, is_wrong = draw_name(rand, KEYS, wrong), rand.random() < wrong
    desk = model.desks.get(name) if isinstance(name, str) else None
    text = rand.choice([TEXT, LOOP, LOOP, format_rule(reversed_bits(SMALL)), format_rule(draw_rule(rand, SMALL, 3))])
    create = ("create", name, rand.choice(WRONG_TEXTS)[0] if is_wrong else text, rand.choice([0, 1, 1, 1, 1, 2, 3]))
    if desk is None and rand.random() < 0.8:
        return create
    left = 2 ** desk.shape[0] - desk.moved if desk is not None else 1
    rows = [("deposit", name, key, rand.choice(WRONG_HASHES) if is_wrong else rand.randrange(32)),
            ("deposit", name, key, rand.randrange(4)), ("withdraw", name, key),
            ("resize", name, rand.choice(WRONG_WIDTHS) if is_wrong else rand.randrange(3)), ("resize", name, rand.randrange(3)),
            ("carry", name, rand.choice(WRONG_NUMBERS) if is_wrong else rand.randrange(left) + 1), ("carry", name, 1),
            ("enlist", name, label), ("enlist", name, label), ("advance", name, label), ("advance", name, label),
            ("advance", name, label), ("finish", name, label)]
    rare = [create, ("discard", name), ("mark", label), ("back", label), ("mark", label), ("back", label)]
    return rand.choice(rare if rand.random() < 0.12 else rows)


def draw_item(rand, model):
    """An item of a batch, which is none now and then."""
    command = draw_command(rand, model, 0.02)
    if rand.random() < 0.06:
        return rand.choice([
            None, 0, True, "", "mark", [], {}, (), ("",), ("batch", []), ("batch",), ("names",), ("shape_of", "main"),
            ("keys_of", "main"), ("told_by", "main", "one"), ("copy",), ("log",), ("undo", "main"), (None, "main"),
            (["mark"], "one"), ({"mark": 0}, "one"), ((("mark",),), "one"), ("Mark", "one"), ("mark ", "one"), (True,),
            list(command), command + (0,), command[:-1], command[:1], command[1:], (command,), ("create", "x", TEXT)])
    return command


class TestExamples(ExactCase):

    def test_the_example(self):
        self.example("""
>>> from loosecursors.board import Board
>>> board = Board()
>>> board.create('main', 'cursors 2\\nshape 0\\ncall 0.0 end\\ncall end\\nshape 1\\ncall 0.0 next 1\\ncall 0.1 end', 1)
>>> [board.deposit('main', 'a', 4), board.deposit('main', 'b', 7), board.enlist('main', 'one'), board.finish('main', 'one'), board.told_by('main', 'one')]
[None, None, None, [['a'], ['b']], {'a': 1, 'b': 1}]
>>> board.resize('main', 0)
raises UnknownShape
""")


class TestDrawn(ExactCase):

    def play(self, rand, pairs):
        board, model = rand.choice(pairs)
        if rand.random() < 0.15:
            items = [draw_item(rand, model) for _ in range(rand.randrange(6))]
            before = exact(items)
            found = outcome(board.batch, items)
            self.assertEqual(exact(items), before)
            self.assertEqual(found, outcome(model.run, "batch", copy.deepcopy(items)), items)
            return "batch", found
        name, *args = draw_command(rand, model)
        found = outcome(getattr(board, name), *args)
        self.assertEqual(found, outcome(model.run, name, *args), (name, args))
        return name, found

    def test_long_rows_of_commands(self):
        counts = {}
        for seed in range(40):
            rand = random.Random(3800 + seed)
            pairs = [(Board(), BoardModel())]
            for _ in range(100):
                name, found = self.play(rand, pairs)
                kind = (name, found.split("'")[1] if "', {" in found else "done")
                counts[kind] = counts.get(kind, 0) + 1
                for board, model in pairs:
                    self.assertEqual(shown(board), shown(model))
                if rand.random() < 0.04:
                    board, model = rand.choice(pairs)
                    pairs = (pairs + [(board.copy(), model.copy())])[-3:]
                    self.same(pairs[-1][0].log, [])
        for name in COMMANDS + ["batch"]:
            self.assertGreater(counts.get((name, "done"), 0), 5, counts)
        for name, error in [("create", "DuplicateName"), ("deposit", "DuplicateName"), ("withdraw", "UnknownName"),
                            ("resize", "Moving"), ("resize", "InvalidWidth"), ("carry", "InvalidNumber"),
                            ("enlist", "DuplicateName"), ("advance", "Over"), ("finish", "Over"), ("finish", "Endless"),
                            ("advance", "UnknownLabel"), ("mark", "DuplicateName"),
                            ("back", "UnknownMark"), ("batch", "InvalidCommand"), ("batch", "UnknownName")]:
            self.assertGreater(counts.get((name, error), 0), 0, (name, error, counts))

    def test_single_commands_on_a_copy_do_the_same_as_a_batch(self):
        good = 0
        for seed in range(150):
            rand = random.Random(3900 + seed)
            board, model = small_board(), BoardModel()
            model.run("create", "main", TEXT, 1)
            items = [draw_command(rand, model, 0) for _ in range(rand.randrange(1, 4))]
            other = board.copy()
            before = shown(board, False)
            try:
                found = board.batch(items)
            except CursorError as error:
                self.assertEqual(shown(board, False), before)
                with self.assertRaises(error.__class__):
                    for name, *args in items:
                        getattr(other, name)(*args)
                continue
            good += 1
            self.same(found, [getattr(other, name)(*args) for name, *args in items])
            self.assertEqual(shown(board, False), shown(other, False))
        self.assertGreater(good, 20)


class TestCommands(ExactCase):

    def test_names_of_desks_keys_labels_and_marks_are_independent(self):
        board = Board()
        board.create("main", TEXT, 1)
        board.mark("main")
        board.deposit("main", "main", 0)
        board.enlist("main", "main")
        self.same(board.advance("main", "main"), ["main"])
        board.back("main")
        self.same([board.names, board.keys_of("main")], [["main"], []])

    def test_what_commands_return(self):
        board = small_board()
        self.same([board.create("x", LOOP, 0), board.deposit("x", "a", 0), board.enlist("x", "one"),
                   board.resize("x", 1), board.carry("x", 1), board.withdraw("x", "a"), board.mark("two"),
                   board.back("two"), board.discard("x"), board.batch([])], [None] * 9 + [[]])
        self.same([board.advance("main", "one"), board.finish("main", "one")], [["a"], [["b"]]])

    def test_queries(self):
        board = small_board()
        self.same([board.names, board.shape_of("main"), board.keys_of("main")], [["loop", "main"], (1,), ["a", "b"]])
        self.same([board.told_by("main", "over"), board.told_by("main", "one")], [{"a": 1, "b": 1}, {}])
        board.withdraw("main", "a")
        self.same([board.stayed_by("main", "over"), board.stayed_by("main", "one"), board.keys_of("main")],
                  [["b"], ["b"], ["b"]])
        self.same(board.told_by("main", "over"), {"a": 1, "b": 1})
        board.resize("loop", 0)
        self.same(board.shape_of("loop"), DOWN)

    def test_desks_on_their_own(self):
        board = small_board()
        board.deposit("main", "c", 0)
        board.resize("loop", 0)
        self.same([board.keys_of("main"), board.keys_of("loop")], [["a", "b", "c"], ["a", "b"]])
        self.same([board.shape_of("main"), board.shape_of("loop")], [ONE, DOWN])

    def test_discard_and_create_again(self):
        board = small_board()
        board.discard("main")
        self.same(board.names, ["loop"])
        self.raises(UnknownName, board.keys_of, "main")
        board.create("main", LOOP, 0)
        self.same([board.shape_of("main"), board.keys_of("main")], [ZERO, []])
        self.raises(UnknownLabel, board.told_by, "main", "one")


class TestFinish(ExactCase):

    def test_at_once_and_after_some_steps(self):
        board = Board()
        board.create("main", format_rule(counting([TWO])), 2)
        for number, name in enumerate(["d", "c", "b", "a"]):
            board.deposit("main", name, number)
        board.enlist("main", "one")
        board.enlist("main", "two")
        self.same(board.finish("main", "one"), [["d"], ["c"], ["b"], ["a"]])
        self.same([board.advance("main", "two"), board.advance("main", "two"), board.finish("main", "two")],
                  [["d"], ["c"], [["b"], ["a"]]])
        self.same([board.told_by("main", "one"), board.told_by("main", "two")], [{name: 1 for name in "abcd"}] * 2)
        for label in ("one", "two"):
            self.raises(Over, board.finish, "main", label)
            self.raises(Over, board.advance, "main", label)

    def test_a_listing_that_would_not_end_in_the_present_shape(self):
        board = small_board()
        board.resize("loop", 0)
        board.carry("loop", 2)
        before = shown(board, False)
        self.raises(Endless, board.finish, "loop", "one")
        self.assertEqual(shown(board, False), before)
        self.same([board.advance("loop", "one"), board.advance("loop", "one")], [["a", "b"], []])
        self.raises(Endless, board.finish, "loop", "one")
        board.resize("loop", 1)
        self.raises(Endless, board.finish, "loop", "one")
        board.carry("loop", 1)
        self.same(board.finish("loop", "one"), [["a"], ["b"]])
        self.same(board.told_by("loop", "one"), {"a": 2, "b": 2})
        self.raises(Over, board.finish, "loop", "one")

    def test_as_many_calls_as_there_are_cursors(self):
        calls = [((), number + 1) for number in range(63)] + [((), None)]
        rule = Rule(64, {ZERO: calls, ONE: [((), 0)] * 64})
        board = Board()
        board.create("main", format_rule(rule), 0)
        board.enlist("main", "one")
        board.enlist("main", "two")
        self.same(board.finish("main", "one"), [[]] * 64)
        board.advance("main", "two")
        self.same(board.finish("main", "two"), [[]] * 63)
        for later in (0, 1, 62, 63):
            board = Board()
            board.create("main", format_rule(rule.with_call(ZERO, 63, ((), later))), 0)
            board.enlist("main", "one")
            self.raises(Endless, board.finish, "main", "one")
            board.advance("main", "one")
            self.raises(Endless, board.finish, "main", "one")
        board = Board()
        board.create("main", format_rule(rule), 1)
        board.enlist("main", "one")
        self.raises(Endless, board.finish, "main", "one")

    def test_one_cursor(self):
        board = Board()
        board.create("main", "cursors 1\nshape 0\ncall 0.0 end\nshape 1\ncall 0.0 next 0", 1)
        board.create("side", "cursors 1\nshape 0\ncall 0.0 end\nshape 1\ncall 0.0 next 0", 0)
        for name in ("main", "side"):
            board.enlist(name, "one")
        self.raises(Endless, board.finish, "main", "one")
        self.same(board.finish("side", "one"), [[]])
        self.raises(Over, board.finish, "side", "one")


class TestMarks(ExactCase):

    def test_restored_any_number_of_times(self):
        board = small_board()
        wanted = shown(board, False)
        for number in range(3):
            board.discard("main")
            board.create("side", LOOP, 0)
            board.deposit("loop", "c", 3)
            board.advance("loop", "one")
            board.resize("loop", 0)
            self.assertNotEqual(shown(board, False), wanted)
            self.assertIsNone(board.back("kept"))
            self.assertEqual(shown(board, False), wanted)
        self.assertIsNone(board.back("kept"))
        self.assertEqual(shown(board, False), wanted)

    def test_marks_stay(self):
        board = Board()
        board.mark("first")
        board.create("main", TEXT, 1)
        board.mark("second")
        board.back("first")
        self.same(board.names, [])
        board.mark("third")
        board.back("second")
        self.same(board.names, ["main"])
        board.back("third")
        self.same(board.names, [])
        for label in ("first", "second", "third"):
            self.raises(DuplicateName, board.mark, label)
        self.raises(UnknownMark, board.back, "fourth")

    def test_a_mark_keeps_its_desks(self):
        board = small_board()
        board.back("kept")
        board.deposit("main", "c", 1)
        board.advance("main", "one")
        board.back("kept")
        self.same([board.keys_of("main"), board.told_by("main", "one")], [["a", "b"], {}])
        self.same([board.advance("main", "one"), board.told_by("main", "one")], [["a"], {"a": 1}])


class TestLog(ExactCase):

    def test_entries(self):
        board = Board()
        self.same(board.log, [])
        board.create("main", TEXT, 1)
        self.raises(UnknownName, board.deposit, "side", "a", 0)
        board.enlist("main", "one")
        board.advance("main", "one")
        board.finish("main", "one")
        self.raises(Over, board.finish, "main", "one")
        board.mark("kept")
        board.discard("main")
        board.back("kept")
        self.same(board.log, ["create", "done", "deposit", "failed", "enlist", "done", "advance", "done", "finish", "done",
                              "finish", "failed", "mark", "done", "discard", "done", "back", "done"])

    def test_each_failed_command(self):
        board = Board()
        wanted = []
        for name in COMMANDS:
            with self.assertRaises(CursorError):
                getattr(board, name)(*[None] * ITEMS[name])
            wanted += [name, "failed"]
            self.same(board.log, wanted)
        self.raises(InvalidCommand, board.batch, None)
        self.same(board.log, wanted + ["batch", "failed"])

    def test_queries_have_no_entries(self):
        board = small_board()
        before = exact(board.log)
        for ask in [lambda: board.names, lambda: board.log, lambda: board.shape_of("main"), lambda: board.keys_of("x"),
                    lambda: board.told_by("main", "one"), lambda: board.stayed_by("main", "x"), board.copy]:
            outcome(ask)
        self.assertEqual(exact(board.log), before)

    def test_a_batch_has_the_entries_of_its_commands_between_its_own(self):
        board = Board()
        board.batch([("create", "main", TEXT, 1), ("deposit", "main", "a", 1)])
        wanted = ["batch", "create", "done", "deposit", "done", "done"]
        self.same(board.log, wanted)
        self.raises(UnknownName, board.batch, [("mark", "one"), ("deposit", "x", "a", 0), ("mark", "two")])
        wanted += ["batch", "mark", "done", "deposit", "failed", "failed"]
        self.same(board.log, wanted)
        self.raises(InvalidCommand, board.batch, [("mark", "one"), ("mark",), ("mark", "two")])
        wanted += ["batch", "mark", "done", "failed"]
        self.same(board.log, wanted)
        board.batch([])
        wanted += ["batch", "done"]
        self.same(board.log, wanted)
        self.raises(InvalidCommand, board.batch, ())
        self.same(board.log, wanted + ["batch", "failed"])

    def test_a_copy_has_an_empty_log(self):
        board = small_board()
        before = exact(board.log)
        other = board.copy()
        self.same(other.log, [])
        other.mark("two")
        self.same([other.log, exact(board.log) == before], [["mark", "done"], True])


class TestBatches(ExactCase):

    def test_results(self):
        board = small_board()
        found = board.batch([("deposit", "main", "c", 8), ("advance", "main", "one"), ("finish", "main", "one"),
                             ("mark", "two"), ("withdraw", "main", "c"), ("enlist", "main", "two"),
                             ("advance", "main", "two"), ("create", "side", LOOP, 1), ("resize", "side", 0),
                             ("carry", "side", 1), ("discard", "loop"), ("back", "two")])
        self.same(found, [None, ["a", "c"], [["b"]], None, None, None, ["a"], None, None, None, None, None])
        self.same([board.names, board.keys_of("main")], [["loop", "main"], ["a", "b", "c"]])

    def test_a_failed_batch_has_no_effect_but_on_the_log(self):
        good = [("deposit", "main", "c", 8), ("advance", "main", "one"), ("mark", "two"), ("discard", "loop"),
                ("create", "side", LOOP, 1), ("back", "kept"), ("finish", "main", "one"), ("withdraw", "main", "a")]
        for at in (0, 1, 4, len(good)):
            for bad, error in [(("deposit", "main", "a", 32), None), (("create", "loop", TEXT, 9), None), (None, InvalidCommand),
                               (("discard", "nobody"), UnknownName), (("mark", "kept"), DuplicateName),
                               (("carry", "main", 1), InvalidNumber), (("back", "none"), UnknownMark)]:
                board = small_board()
                before, entries = shown(board, False), len(board.log)
                with self.assertRaises(error or CursorError):
                    board.batch(good[:at] + [bad] + good[at:])
                self.assertEqual(shown(board, False), before)
                done = [word for name, *_ in good[:at] for word in (name, "done")]
                mine = [bad[0], "failed"] if bad else []
                self.same(board.log[entries:], ["batch"] + done + mine + ["failed"])
                self.raises(UnknownMark, board.back, "two")
                self.assertEqual(shown(board, False), before)

    def test_the_line_of_a_parse_error(self):
        board = Board()
        for text, line in WRONG_TEXTS:
            error = self.raises(ParseError, board.batch, [("mark", "one"), ("create", "main", text, 1)])
            self.same(error.line, line)
            board.mark("one")
            board = Board()

    def test_items_that_are_no_commands(self):
        rows = [None, 0, True, "", "mark", [], {}, (), ("",), ("batch", []), ("batch",), ("names",), ("shape_of", "main"),
                ("keys_of", "main"), ("told_by", "main", "one"), ("stayed_by", "main", "one"), ("copy",), ("log",),
                ("undo",), ("put", "main", "a"), ("step", "main", "one"), (None,), (None, "a"), (0, 1), (["mark"], "a"),
                ({"mark": 1}, "a"), (("mark",), "a"), ("Mark", "a"), ("mark ", "a"), ["mark", "a"], [("mark", "a")],
                (("mark", "a"),), ("_create", "a", "b", 1), ("__init__",)]
        for name, many in ITEMS.items():
            rows += [(name,) + ("a",) * number for number in range(6) if number != many] + [[name] + ["a"] * many]
        for item in rows + [thing for thing in odd_things()]:
            board = small_board()
            before, entries = shown(board, False), len(board.log)
            self.raises(InvalidCommand, board.batch, [item])
            self.same(board.log[entries:], ["batch", "failed"])
            self.raises(InvalidCommand, board.batch, [("mark", "two"), item, ("mark", "kept")])
            self.same(board.log[entries + 2:], ["batch", "mark", "done", "failed"])
            self.assertEqual(shown(board, False), before)

    def test_the_next_item_counts_when_its_turn_comes(self):
        board = small_board()
        self.raises(DuplicateName, board.batch, [("mark", "kept"), None])
        self.raises(InvalidCommand, board.batch, [None, ("mark", "kept")])
        self.raises(UnknownName, board.batch, [("discard", "main"), ("deposit", "main", "a"[:1], 0), ("batch", [])])

    def test_objects_that_are_no_lists(self):
        board = small_board()
        before = shown(board, False)
        for thing in odd_things() + [("mark", "two"), (("mark", "two"),), {("mark", "two"): 1}, "mark", board.log[0]]:
            if not isinstance(thing, list):
                entries = len(board.log)
                self.raises(InvalidCommand, board.batch, thing)
                self.same(board.log[entries:], ["batch", "failed"])
                self.assertEqual(shown(board, False), before)

    def test_the_empty_list(self):
        board = small_board()
        before = shown(board, False)
        self.same(board.batch([]), [])
        self.assertEqual(shown(board, False), before)

    def test_several_batches_one_after_another(self):
        board = small_board()
        self.raises(UnknownName, board.batch, [("withdraw", "main", "a"), ("withdraw", "main", "a")])
        self.same(board.batch([("withdraw", "main", "a"), ("advance", "main", "one")]), [None, []])
        self.raises(UnknownName, board.batch, [("withdraw", "main", "b"), ("withdraw", "main", "a")])
        self.same([board.keys_of("main"), board.advance("main", "one")], [["b"], ["b"]])


class TestErrors(ExactCase):

    def fails(self, board, error, method, *args):
        before, entries = shown(board, False), exact(board.log)
        found = self.raises(error, getattr(board, method), *args)
        self.assertEqual(shown(board, False), before)
        wanted = entries[:-1] + f", '{method}', 'failed']" if method in ITEMS or method == "batch" else entries
        self.assertEqual(exact(board.log), wanted)
        return found

    def test_create(self):
        board = small_board()
        for name in WRONG_NAMES:
            for text in (TEXT, "", None):
                self.fails(board, InvalidName, "create", name, text, 9)
        for text in (TEXT, "", None):
            self.fails(board, DuplicateName, "create", "main", text, 9)
        for text, line in WRONG_TEXTS:
            for width in (1, 9, None):
                self.same(self.fails(board, ParseError, "create", "new", text, width).line, line)
        for thing in odd_things():
            self.fails(board, ParseError, "create", "new", thing, 1)
        for width in WRONG_WIDTHS + [thing for thing in odd_things() if thing.__class__ is not int]:
            self.fails(board, InvalidWidth, "create", "new", TEXT, width)
        for width in (2, 3, 4, 5):
            self.fails(board, UnknownShape, "create", "new", TEXT, width)

    def test_names_of_desks_that_are_unknown(self):
        board = small_board()
        board.discard("loop")
        for name in WRONG_NAMES + ["loop", "one", "kept"] + [thing for thing in odd_things() if not isinstance(thing, str)]:
            for method, args in [("deposit", ("a", None)), ("withdraw", (None,)), ("resize", (None,)), ("carry", (None,)),
                                 ("enlist", (None,)), ("advance", (None,)), ("finish", (None,)), ("discard", ()),
                                 ("shape_of", ()), ("keys_of", ()), ("told_by", (None,)), ("stayed_by", (None,))]:
                self.fails(board, UnknownName, method, name, *args)

    def test_errors_of_the_desk(self):
        board = small_board()
        for name in WRONG_NAMES:
            self.fails(board, InvalidName, "deposit", "main", name, None)
            self.fails(board, UnknownName, "withdraw", "main", name)
            self.fails(board, InvalidName, "enlist", "main", name)
        self.fails(board, DuplicateName, "deposit", "main", "a", None)
        for code in WRONG_HASHES:
            self.fails(board, InvalidHash, "deposit", "main", "c", code)
        self.fails(board, UnknownName, "withdraw", "main", "c")
        self.fails(board, DuplicateName, "enlist", "main", "over")
        for width in WRONG_WIDTHS + [1]:
            self.fails(board, InvalidWidth, "resize", "main", width)
            self.fails(board, InvalidWidth, "resize", "loop", width)
        for width in (0, 2, 5):
            self.fails(board, UnknownShape, "resize", "main", width)
        for count in WRONG_NUMBERS + [0, 1, 2]:
            self.fails(board, InvalidNumber, "carry", "main", count)
        board.resize("loop", 0)
        for width in (0, 1, 5):
            self.fails(board, Moving, "resize", "loop", width)
        for count in WRONG_NUMBERS + [0, 3]:
            self.fails(board, InvalidNumber, "carry", "loop", count)

    def test_labels_that_are_unknown(self):
        board = small_board()
        for label in WRONG_NAMES + ["two", "kept", "main"] + [thing for thing in odd_things() if not isinstance(thing, str)]:
            for method in ("advance", "finish", "told_by", "stayed_by"):
                self.fails(board, UnknownLabel, method, "main", label)

    def test_over_ahead_of_endless(self):
        board = small_board()
        for method in ("advance", "finish"):
            self.fails(board, Over, method, "main", "over")
        board.resize("loop", 0)
        board.carry("loop", 2)
        self.fails(board, Over, "finish", "loop", "over")
        self.fails(board, UnknownLabel, "finish", "loop", "two")
        self.fails(board, Endless, "finish", "loop", "one")

    def test_marks(self):
        board = small_board()
        for label in WRONG_NAMES + [thing for thing in odd_things() if not isinstance(thing, str)]:
            self.fails(board, InvalidName, "mark", label)
            self.fails(board, UnknownMark, "back", label)
        self.fails(board, DuplicateName, "mark", "kept")
        for label in ("main", "one", "two"):
            self.fails(board, UnknownMark, "back", label)


class TestCopies(ExactCase):

    def test_copies_in_turns(self):
        board = small_board()
        other = board.copy()
        self.assertIsInstance(other, Board)
        self.assertEqual(shown(other, False), shown(board, False))
        third = other.copy()
        before = shown(board, False)
        other.deposit("main", "c", 2)
        other.advance("main", "one")
        other.discard("loop")
        other.mark("two")
        self.assertEqual(shown(board, False), before)
        self.assertEqual(shown(third, False), before)
        self.raises(UnknownMark, board.back, "two")
        self.raises(UnknownMark, third.back, "two")
        third.discard("main")
        third.back("kept")
        self.assertEqual(shown(third, False), before)
        other.back("kept")
        self.assertEqual(shown(other, False), before)
        board.withdraw("main", "a")
        other.back("kept")
        self.same([board.keys_of("main"), other.keys_of("main"), third.keys_of("main")], [["b"], ["a", "b"], ["a", "b"]])


class TestArguments(ExactCase):

    def test_what_is_returned_is_new(self):
        board = small_board()
        before = shown(board)
        for _ in range(2):
            for found in (board.names, board.log, board.keys_of("main"), board.told_by("main", "over"),
                          board.stayed_by("main", "one")):
                spoil_all(found)
            self.assertEqual(shown(board), before)
        for found in (board.advance("main", "one"), board.finish("main", "one"), board.batch([("finish", "loop", "one")])):
            spoil_all(found)
        self.same([board.told_by("main", "one"), board.told_by("loop", "one")], [{"a": 1, "b": 1}] * 2)

    def test_commands_may_be_changed_behind_a_batch(self):
        board = small_board()
        items = [("deposit", "main", "c", 8), ("mark", "two")]
        self.untouched_once(board, items)
        items.clear()
        self.same(board.keys_of("main"), ["a", "b", "c"])

    def untouched_once(self, board, items):
        before = exact(items)
        board.batch(items)
        self.assertEqual(exact(items), before)

    def test_queries_in_ascending_order(self):
        board = Board()
        for name in ("z", "m", "a", "ab"):
            board.create(name, TEXT, 0)
        self.same(board.names, ["a", "ab", "m", "z"])
        for key in ("z", "m", "a", "ab"):
            board.deposit("m", key, 0)
        board.enlist("m", "one")
        self.same(board.finish("m", "one"), [["a", "ab", "m", "z"]])
        self.same([board.keys_of("m"), board.stayed_by("m", "one")], [["a", "ab", "m", "z"]] * 2)
        self.same(board.told_by("m", "one"), {"a": 1, "ab": 1, "m": 1, "z": 1})

    def test_by_name_in_another_order(self):
        board = Board()
        board.create(width=1, text=LOOP, name="main")
        board.deposit(code=4, key="a", name="main")
        board.deposit(code=7, key="b", name="main")
        board.enlist(label="one", name="main")
        board.mark(label="kept")
        self.same(board.advance(label="one", name="main"), ["a"])
        self.same(board.finish(label="one", name="main"), [["b"]])
        self.same([board.shape_of(name="main"), board.keys_of(name="main"), board.told_by(label="one", name="main"),
                   board.stayed_by(label="one", name="main")], [ONE, ["a", "b"], {"a": 1, "b": 1}, ["a", "b"]])
        board.withdraw(key="a", name="main")
        board.resize(width=0, name="main")
        board.carry(count=1, name="main")
        self.same(board.batch(commands=[("discard", "main")]), [None])
        board.back(label="kept")
        board.discard(name="main")
        self.same(board.log[-4:], ["back", "done", "discard", "done"])
        self.raises(UnknownName, board.told_by, label=None, name=None)

    def test_two_boards(self):
        first, second = Board(), Board()
        first.create("main", TEXT, 1)
        first.mark("kept")
        self.same([second.names, second.log], [[], []])
        self.raises(UnknownMark, second.back, "kept")


if __name__ == "__main__":
    unittest.main()
