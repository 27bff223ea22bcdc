"""A shell, against a model of its lines over the model of a board."""

import random
import re
import unittest

from loosecursors.errors import (CursorError, DuplicateName, Endless, InvalidHash, InvalidLine, InvalidName, InvalidNumber,
                                 InvalidWidth, Moving, Over, ParseError, UnknownLabel, UnknownMark, UnknownName,
                                 UnknownShape)
from loosecursors.makers import counting, reversed_bits
from loosecursors.shell import Shell
from loosecursors.texts import format_rule
from tests.helpers import SHAPES, BoardModel, ExactCase, draw_rule, exact, odd_things, outcome

SMALL = [shape for shape in SHAPES if max(shape) < 3]
TEXT = "cursors,2/shape,0/call,0.0,end/call,end/shape,1/call,0.0,next,1/call,0.1,end"
LOOP = "cursors,2/shape,0/call,0.0,next,1/call,next,0/shape,0>1/call,next,1/call,next,1/" \
       "shape,1/call,0.0,next,1/call,0.1,end/shape,1>0/call,0.0,next,1/call,0.1,1.0,end"
NAMES = ["main", "side"]
KEYS = ["a", "b", "c", "d"]
LABELS = ["one", "two"]
WORD, NUMBER = "([^ \n]+)", "(0|[1-9][0-9]?)"
FORMS = {
    "create": f"create {WORD} {NUMBER} {WORD}", "deposit": f"deposit {WORD} {WORD} {NUMBER}",
    "withdraw": f"withdraw {WORD} {WORD}", "resize": f"resize {WORD} {NUMBER}", "carry": f"carry {WORD} {NUMBER}",
    "enlist": f"enlist {WORD} {WORD}", "discard": f"discard {WORD}", "mark": f"mark {WORD}", "back": f"back {WORD}",
    "advance": f"advance {WORD} {WORD}", "finish": f"finish {WORD} {WORD}", "shape": f"shape {WORD}",
    "keys": f"keys {WORD}", "stayed": f"stayed {WORD} {WORD}", "told": f"told {WORD} {WORD}", "names": "names"}
LINES = ["create main 1 " + TEXT, "deposit main a 4", "withdraw main a", "resize main 0", "carry main 1",
         "enlist main one", "discard main", "mark kept", "back kept", "advance main one", "finish main one", "shape main",
         "keys main", "stayed main one", "told main one", "names"]


def as_word(text):
    return text.replace("\n", "/").replace(" ", ",")


class ShellModel:
    """A shell by hand: each line is read by a pattern of its own."""

    def __init__(self):
        self.board = BoardModel()

    def run(self, line):
        for first, form in FORMS.items():
            found = re.fullmatch(form, line) if isinstance(line, str) else None
            if found is not None:
                words = list(found.groups())
                at = {"create": 1, "deposit": 2, "resize": 1, "carry": 1}.get(first)
                if at is not None:
                    words[at] = int(words[at])
                return getattr(self, f"run_{first}", self.run_command)(first, words)
        raise InvalidLine("")

    def run_command(self, first, words):
        self.board.run(first, *words)
        return "ok"

    def run_create(self, first, words):
        text = "\n".join([line.replace(",", " ") for line in words[2].split("/")])
        return self.run_command(first, [words[0], text, words[1]])

    def run_advance(self, first, words):
        return self.several(self.board.run(first, *words))

    def run_finish(self, first, words):
        return " ".join([",".join(names) if names else "-" for names in self.board.run(first, *words)])

    def run_shape(self, first, words):
        return ">".join([str(width) for width in self.board.shape_of(*words)])

    def run_keys(self, first, words):
        return self.several(self.board.keys_of(*words))

    def run_stayed(self, first, words):
        return self.several(self.board.stayed_by(*words))

    def run_told(self, first, words):
        return self.several([f"{key}:{times}" for key, times in self.board.told_by(*words).items()])

    def run_names(self, first, words):
        return " ".join(self.board.names) if self.board.names else "-"

    def several(self, words):
        return " ".join(words) if words else "none"


def shown(shell):
    """All that a shell shows, as a text."""
    names = [] if shell.run("names") == "-" else shell.run("names").split(" ")
    rows = [outcome(shell.run, f"{ask} {name}") for name in names for ask in ("shape", "keys")]
    rows += [outcome(shell.run, f"{ask} {name} {label}") for name in names for label in LABELS + ["kept"]
             for ask in ("stayed", "told")]
    return exact([names, rows])


def small_shell():
    """A shell with two desks, keys, a listing and a mark."""
    shell = Shell()
    for line in ["create main 1 " + TEXT, "create loop 1 " + LOOP, "deposit main a 4", "deposit main b 7", "deposit loop c 3",
                 "enlist main one", "enlist loop one", "mark kept"]:
        shell.run(line)
    return shell


def draw_line(rand, shell):
    """A line that is valid by its words, most often one that raises no error."""
    names = shell.run("names").split(" ")
    name = rand.choice(NAMES)
    label, key = rand.choice(LABELS), rand.choice(KEYS)
    rule = rand.choice([reversed_bits(SMALL), draw_rule(rand, SMALL, 3)])
    text = rand.choice([TEXT, LOOP, as_word(format_rule(rule))])
    if name not in names and rand.random() < 0.8:
        return f"create {name} {rand.choice([0, 1, 1, 1, 2])} {text}"
    rare = [f"create {name} 1 {text}", f"discard {name}", f"mark {label}", f"back {label}", f"mark {label}",
            f"back {label}"]
    lines = [f"deposit {name} {key} {rand.randrange(4)}", f"deposit {name} {key} {rand.randrange(34)}",
             f"withdraw {name} {key}", f"resize {name} {rand.randrange(3)}", f"resize {name} {rand.randrange(8)}",
             f"carry {name} 1", f"carry {name} {rand.randrange(4)}", f"enlist {name} {label}", f"enlist {name} {label}",
             f"advance {name} {label}", f"advance {name} {label}", f"finish {name} {label}", f"shape {name}",
             f"keys {name}", f"stayed {name} {label}", f"told {name} {label}", "names"]
    return rand.choice(rare if rand.random() < 0.12 else lines)


def spoilt_line(rand, line):
    """A line with a word or a sign left out, put in, exchanged or turned."""
    words = line.split(" ")
    at = rand.randrange(len(words))
    signs = rand.choice(["\n", "\t", " ", "", "x", "A", "0", "-", "/", ",", "1", "00", "9" * 5000])
    where = rand.randrange(len(line) + 1)
    return rand.choice([
        " ".join(words[:at] + words[at + 1:]), " ".join(words[:at] + [words[at]] + words[at:]),
        " ".join(words[:at] + [rand.choice(words)] + words[at + 1:]), " ".join(words[:at] + [signs] + words[at:]),
        " ".join(words[:at] + [signs] + words[at + 1:]), " ".join(words[::-1]), line[:where] + signs + line[where:],
        line[:where] + line[where + 1:], line[:where], " " + line, line + " ", line.replace(" ", "  ", 1), line + "\n",
        "\n" + line, line.replace(" ", "\t", 1), line.upper(), line.capitalize()])


class TestExamples(ExactCase):

    def test_the_example(self):
        self.example("""
>>> from loosecursors.shell import Shell
>>> shell = Shell()
>>> lines = ['create main 1 cursors,2/shape,0/call,0.0,end/call,end/shape,1/call,0.0,next,1/call,0.1,end', 'deposit main a 4']
>>> [[shell.run(line) for line in lines], shell.run('enlist main one'), shell.run('finish main one'), shell.run('told main one')]
[['ok', 'ok'], 'ok', 'a -', 'a:1']
""")


class TestDrawn(ExactCase):

    def test_long_rows_of_lines(self):
        counts = {}
        for seed in range(40):
            rand = random.Random(4000 + seed)
            shells = [(Shell(), ShellModel()) for _ in range(2)]
            for _ in range(100):
                shell, model = rand.choice(shells)
                line = draw_line(rand, shell)
                if rand.random() < 0.25:
                    line = spoilt_line(rand, line)
                before = shown(shell)
                found = outcome(shell.run, line)
                self.assertEqual(found, outcome(model.run, line), line)
                if found.startswith("["):
                    self.assertEqual(shown(shell), before, line)
                kind = (line.split(" ")[0], found[:1])
                counts[kind] = counts.get(kind, 0) + 1
                for one, other in shells:
                    self.assertEqual(shown(one), shown(other))
        for first in FORMS:
            self.assertGreater(counts.get((first, "'"), 0), 5, counts)

    def test_spoilt_lines(self):
        counts = {}
        rand = random.Random(41)
        for _ in range(4000):
            shell, model = small_shell() if _ % 50 == 0 else shell, None
            line = spoilt_line(rand, rand.choice(LINES))
            valid = any([re.fullmatch(form, line) for form in FORMS.values()])
            found = outcome(shell.run, line)
            counts[valid] = counts.get(valid, 0) + 1
            self.assertIs(found.startswith("['InvalidLine'"), not valid, line)
        self.assertGreater(min(counts.values()), 300, counts)


class TestAnswers(ExactCase):

    def run_all(self, shell, rows):
        for line, answer in rows:
            self.same(shell.run(line), answer)

    def test_each_line(self):
        self.run_all(Shell(), [
            ("names", "-"), ("create main 1 " + TEXT, "ok"), ("names", "main"), ("shape main", "1"), ("keys main", "none"),
            ("enlist main one", "ok"), ("stayed main one", "none"), ("told main one", "none"), ("advance main one", "none"),
            ("finish main one", "-"), ("told main one", "none"), ("deposit main b 6", "ok"), ("deposit main a 9", "ok"),
            ("deposit main c 1", "ok"), ("keys main", "a b c"), ("enlist main two", "ok"), ("stayed main two", "a b c"),
            ("stayed main one", "none"), ("mark kept", "ok"), ("advance main two", "b"), ("told main two", "b:1"),
            ("finish main two", "a,c"), ("told main two", "a:1 b:1 c:1"), ("withdraw main b", "ok"),
            ("stayed main two", "a c"), ("keys main", "a c"), ("told main two", "a:1 b:1 c:1"), ("back kept", "ok"),
            ("keys main", "a b c"), ("told main two", "none"), ("discard main", "ok"), ("names", "-"), ("back kept", "ok"),
            ("names", "main"), ("finish main two", "b a,c")])

    def test_resize_and_carry(self):
        self.run_all(small_shell(), [
            ("resize loop 0", "ok"), ("shape loop", "1>0"), ("deposit loop a 1", "ok"), ("advance loop one", "none"),
            ("carry loop 1", "ok"), ("shape loop", "1>0"), ("advance loop one", "a c"), ("carry loop 1", "ok"),
            ("shape loop", "0"), ("resize loop 1", "ok"), ("shape loop", "0>1"), ("carry loop 1", "ok"), ("shape loop", "1"),
            ("told loop one", "a:1 c:1"), ("stayed loop one", "c")])

    def test_finish_with_several_names_and_none(self):
        shell = Shell()
        shell.run("create main 2 " + as_word(format_rule(counting([(2,)]))))
        for line in ["deposit main c 0", "deposit main b 4", "deposit main a 8", "deposit main z 3", "enlist main one"]:
            shell.run(line)
        self.run_all(shell, [("finish main one", "a,b,c - - z"), ("told main one", "a:1 b:1 c:1 z:1")])

    def test_how_often(self):
        shell = Shell()
        calls = [f"call,0.0,next,{number}" for number in range(1, 12)] + ["call,0.0,end"]
        shell.run("create main 0 cursors,12/shape,0/" + "/".join(calls))
        for line in ["deposit main a 0", "enlist main one"]:
            shell.run(line)
        self.run_all(shell, [("finish main one", " ".join(["a"] * 12)), ("told main one", "a:12")])

    def test_names_and_keys_in_ascending_order(self):
        shell = Shell()
        for name in ("z", "m", "ab", "a"):
            shell.run(f"create {name} 0 {TEXT}")
        for key in ("z", "m", "ab", "a"):
            shell.run(f"deposit m {key} 0")
        self.run_all(shell, [("names", "a ab m z"), ("keys m", "a ab m z"), ("enlist m one", "ok"),
                             ("stayed m one", "a ab m z"), ("advance m one", "a ab m z"),
                             ("told m one", "a:1 ab:1 m:1 z:1")])

    def test_shapes_of_all_kinds(self):
        for shape in SHAPES:
            text = as_word(format_rule(reversed_bits(list({shape, shape[:1], shape[-1:]}))))
            shell = Shell()
            shell.run(f"create main {shape[0]} {text}")
            if len(shape) == 2:
                shell.run(f"resize main {shape[1]}")
            self.same(shell.run("shape main"), repr(shape).strip("(),").replace(", ", ">"))

    def test_words_like_those_of_lines(self):
        shell = Shell()
        self.run_all(shell, [("create names 1 " + TEXT, "ok"), ("names", "names"), ("deposit names none 0", "ok"),
                             ("keys names", "none"), ("mark mark", "ok"), ("enlist names keys", "ok"),
                             ("advance names keys", "none"), ("told names keys", "none:1")])


class TestLines(ExactCase):

    def invalid(self, shell, line):
        before = shown(shell)
        self.raises(InvalidLine, shell.run, line)
        self.assertEqual(shown(shell), before)

    def test_words_left_out_put_in_and_twice(self):
        shell = small_shell()
        for line in LINES:
            words = line.split(" ")
            for at in range(len(words)):
                self.invalid(shell, " ".join(words[:at] + words[at + 1:]))
                self.invalid(shell, " ".join(words[:at] + [words[at]] + words[at:]))
                self.invalid(shell, " ".join(words[:at] + [""] + words[at:]))
            self.invalid(shell, line + " x")
            self.invalid(shell, line + " 1")

    def test_blanks_line_feeds_and_tabs(self):
        shell = small_shell()
        for line in LINES:
            for other in (" " + line, line + " ", line + "\n", "\n" + line, "\t" + line, "  " + line, line + "  "):
                self.invalid(shell, other) if other != line + "\t" else None
            for at, sign in enumerate(line):
                if sign == " ":
                    for blank in ("  ", "\n", "\t", " \n", "\n "):
                        self.invalid(shell, line[:at] + blank + line[at + 1:])

    def test_a_tab_may_stand_in_a_word(self):
        shell = small_shell()
        for line, error in [("mark a\tb", InvalidName), ("shape \t", UnknownName), ("keys main\t", UnknownName),
                            ("advance main one\t", UnknownLabel), ("back \tkept", UnknownMark),
                            ("deposit main \t 1", InvalidName), ("create \t 1 " + TEXT, InvalidName)]:
            self.raises(error, shell.run, line)
        self.same(self.raises(ParseError, shell.run, "create new 1 cursors\t2").line, 0)
        for line in ("names\t", "carry main 1\t", "resize main \t0", "deposit main c 1\t", "create new 1\t " + TEXT):
            self.invalid(shell, line)

    def test_first_words(self):
        shell = small_shell()
        for line in ["", " ", "\n", "x", "Names", "NAMES", "name", "namess", "batch", "log", "copy", "batch names", "shapes main",
                     "Mark kept", "shape_of main", "keys_of main", "told_by main one", "stayed_by main one", "undo main",
                     "put main a 1", "step main one", "main", "1", "none", "-", "run names", "create", "9" * 5000]:
            self.invalid(shell, line)

    def test_integers(self):
        shell = small_shell()
        forms = ["create new {} " + TEXT, "deposit main c {}", "resize main {}", "carry main {}", "deposit nobody c {}",
                 "create main {} x", "resize nobody {}", "carry nobody {}"]
        for word in ["00", "01", "007", "+1", "-1", "-0", "1.0", "1e1", "0x1", "100", "101", "999", "1" * 5000, "0" * 5000, "9" * 40,
                     "a", "one", "1a", "a1", "1_0", "True", "None", ".", "-", "\t1", "1\t", "1,", "", "''"]:
            for form in forms:
                self.invalid(shell, form.format(word))

    def test_all_integers_from_0_to_99(self):
        shell = small_shell()
        for number in range(100):
            self.raises(InvalidWidth if number > 5 or number == 1 else UnknownShape, shell.run, f"resize main {number}")
            self.raises(InvalidNumber, shell.run, f"carry main {number}")
            self.raises(UnknownName, shell.run, f"carry nobody {number}")
            self.raises(DuplicateName, shell.run, f"deposit main a {number}")
            if number > 31:
                self.raises(InvalidHash, shell.run, f"deposit main c {number}")
            else:
                self.same([shell.run(f"deposit main c {number}"), shell.run("withdraw main c")], ["ok", "ok"])
            if number > 5:
                self.raises(InvalidWidth, shell.run, f"create new {number} {TEXT}")

    def test_objects_that_are_no_strings(self):
        shell = small_shell()
        for thing in odd_things() + [["names"], ("names",), {"names": 1}, ["n", "a", "m", "e", "s"], None]:
            self.invalid(shell, thing)

    def test_invalid_lines_ahead_of_all_other_errors(self):
        shell = small_shell()
        for line in ["deposit nobody A 100", "deposit main a", "create MAIN 9 x y", "create MAIN 100 x", "resize nobody x",
                     "carry nobody 007", "mark kept kept", "back none none", "advance nobody", "finish main two one",
                     "shape nobody main", "told nobody", "names main", "discard nobody main", "keys", "stayed main"]:
            self.invalid(shell, line)


class TestErrors(ExactCase):

    def fails(self, shell, error, line):
        before = shown(shell)
        found = self.raises(error, shell.run, line)
        self.assertEqual(shown(shell), before)
        return found

    def test_errors_of_the_board(self):
        shell = small_shell()
        for line in ["create main 9 x", "create loop 1 " + TEXT, "deposit main a 99", "enlist main one", "mark kept"]:
            self.fails(shell, DuplicateName, line)
        for line in ["create Main 9 x", "create abcdefghi 1 x", "create a1 1 x", "deposit main A 99", "enlist main a.b",
                     "mark Kept", "mark abcdefghi", "mark -"]:
            self.fails(shell, InvalidName, line)
        for line in ["deposit nobody A 99", "withdraw nobody a", "withdraw main c", "withdraw main A", "resize nobody 9",
                     "carry nobody 0", "enlist nobody A", "advance nobody one", "finish nobody one", "discard nobody",
                     "shape nobody", "keys Main", "stayed nobody one", "told nobody one", "discard -"]:
            self.fails(shell, UnknownName, line)
        for line in ["advance main two", "finish main two", "stayed main two", "told main kept", "told main One"]:
            self.fails(shell, UnknownLabel, line)
        for line in ["back none", "back main", "back Kept"]:
            self.fails(shell, UnknownMark, line)
        for line in ["resize main 1", "resize main 6", "resize main 99", "create new 6 " + TEXT]:
            self.fails(shell, InvalidWidth, line)
        for line in ["resize main 0", "create new 2 " + TEXT]:
            self.fails(shell, UnknownShape, line)
        for line in ["carry main 1", "carry loop 0"]:
            self.fails(shell, InvalidNumber, line)
        self.fails(shell, InvalidHash, "deposit main c 32")
        shell.run("resize loop 0")
        self.fails(shell, Moving, "resize loop 0")
        shell.run("carry loop 2")
        self.fails(shell, Endless, "finish loop one")
        shell.run("finish main one")
        self.fails(shell, Over, "finish main one")
        self.fails(shell, Over, "advance main one")

    def test_the_line_of_a_parse_error(self):
        shell = small_shell()
        for text, line in [("x", 0), ("/", 0), (",", 0), ("cursors", 0), ("cursors,0", 0), ("cursors,1", 1), ("cursors,1/", 1),
                           ("cursors,01/shape,0", 0), ("cursors,,1", 0), (",cursors,1", 0), ("cursors,1,/shape,0", 0),
                           ("/cursors,1", 0), ("cursors,1//shape,0", 1), (TEXT + "/", 7), (TEXT + ",", 6), (TEXT + "//", 7),
                           (TEXT[1:], 0), (TEXT[:-1], 6), (TEXT[:-4], 6), (TEXT.replace("/", ",", 1), 0),
                           (TEXT.replace(",", "/", 1), 0), (TEXT.replace("end/call", "end,call", 1), 2),
                           (TEXT.replace("call,0.0,end", "call,0.0,/end"), 2), (TEXT.replace("shape,1", "shape,0"), 4),
                           (TEXT.replace("0.1", "0.2"), 6), (TEXT.replace("next,1", "next,2"), 5),
                           (TEXT.replace("next,1", "next,01"), 5), (TEXT.replace("next,1", "next," + "1" * 5000), 5),
                           (TEXT.upper(), 0), (TEXT.replace("0.0", "0,0"), 2), (TEXT[:TEXT.index("/shape,1/") + 8], 5)]:
            for width in (1, 9):
                self.same(self.fails(shell, ParseError, f"create new {width} {text}").line, line)
            self.fails(shell, DuplicateName, f"create main 1 {text}")
            self.fails(shell, InvalidName, f"create New 1 {text}")

    def test_a_line_that_raises_an_error_changes_nothing(self):
        shell = small_shell()
        shell.run("finish main one")
        before = shown(shell)
        for line in LINES + ["deposit main a 99", "finish loop two"]:
            try:
                Shell().run(line)
            except CursorError:
                pass
            self.assertEqual(shown(shell), before)


class TestShells(ExactCase):

    def test_two_shells_beside_each_other(self):
        first, second = small_shell(), Shell()
        self.same([first.run("names"), second.run("names")], ["loop main", "-"])
        second.run("create main 0 " + TEXT)
        first.run("discard main")
        self.same([first.run("names"), second.run("names")], ["loop", "main"])
        self.raises(UnknownMark, second.run, "back kept")

    def test_asking_again_gives_the_same(self):
        shell = small_shell()
        self.assertEqual(shown(shell), shown(shell))

    def test_by_name(self):
        self.same(Shell().run(line="names"), "-")
        self.raises(InvalidLine, Shell().run, line=None)


if __name__ == "__main__":
    unittest.main()
