"""The texts of rules and roads, there and back, and the line of a text that is none."""

import re
import unittest

from loosecursors.errors import ParseError
from loosecursors.roads import Road, full_road
from loosecursors.rules import Rule
from loosecursors.texts import format_road, format_rule, parse_road, parse_rule
from tests.helpers import SHAPES, ExactCase, odd_things

SMALL = "cursors 2\nshape 0\ncall 0.0 end\ncall end\nshape 1\ncall 0.0 next 1\ncall 0.1 end"
MOVING = ("cursors 3\nshape 0>1\ncall 0.0 1.0 1.1 next 2\ncall next 0\ncall end\n"
          "shape 2\ncall 0.0 0.3 end\ncall 0.1 next 1\ncall 0.0 0.1 0.2 0.3 next 0\n"
          "shape 2>0\ncall 0.3 1.0 end\ncall 1.0 end\ncall next 2")
ONE = "cursors 1\nshape 5>4\ncall 0.9 0.10 0.31 1.0 1.15 next 0"
RULE_TEXTS = [SMALL, MOVING, ONE]
ROAD_TEXTS = [
    "begin 0",
    "begin 0\nchange 0 0>1\nchange 0>1 1",
    "begin 0\nbegin 0>1\nbegin 5>4\nchange 0 0>1\nchange 0 1\nchange 0>1 0\nchange 3>2 2>3",
    "begin 5>4\nchange 5>4 5",
]

NUMBER = "(?:0|[1-9][0-9]?)"


def shape_by_hand(word):
    """The shape of a word, or None."""
    if re.fullmatch("[0-5]", word):
        return (int(word),)
    if re.fullmatch("[0-5]>[0-5]", word) and word[0] != word[2]:
        return (int(word[0]), int(word[2]))
    return None


def call_line_by_hand(line, cursors, shape):
    """Whether a line is the one of a call."""
    if not re.fullmatch(f"call( [01]\\.{NUMBER})*( next {NUMBER}| end)", line):
        return False
    words = line.split(" ")
    if words[-1] != "end" and int(words[-1]) >= cursors:
        return False
    found = [word for word in words if "." in word]
    names = [f"{table}.{number}" for table in range(len(shape)) for number in range(2 ** shape[table])]
    return found == [name for name in names if name in found]


def rule_line_by_hand(text):
    """The line of the ParseError of a text of a rule, or None if it is one."""
    lines = text.split("\n")
    if not re.fullmatch("cursors ([1-9]|[1-5][0-9]|6[0-4])", lines[0]):
        return 0
    cursors = int(lines[0][8:])
    shape = ()
    for index in range(1, len(lines)):
        if index % (cursors + 1) == 1:
            word = lines[index][6:]
            if lines[index][:6] != "shape " or shape_by_hand(word) is None or shape_by_hand(word) <= shape:
                return index
            shape = shape_by_hand(word)
        elif not call_line_by_hand(lines[index], cursors, shape):
            return index
    if len(lines) == 1 or len(lines) % (cursors + 1) != 1:
        return len(lines)
    return None


def road_line_by_hand(text):
    """The line of the ParseError of a text of a road, or None if it is one."""
    begin, changes = [()], [()]
    lines = text.split("\n")
    for index, line in enumerate(lines):
        found = re.fullmatch("begin ([^ ]+)|change ([^ ]+) ([^ ]+)", line)
        if found is None:
            return index
        shapes = [shape_by_hand(word) for word in found.groups() if word is not None]
        if None in shapes or len(begin) == 1 and len(shapes) == 2 or len(changes) > 1 and len(shapes) == 1:
            return index
        if len(shapes) == 1 and shapes[0] <= begin[-1]:
            return index
        if len(shapes) == 2 and (tuple(shapes) <= changes[-1] or shapes[0] == shapes[1]):
            return index
        (begin if len(shapes) == 1 else changes).append(shapes[0] if len(shapes) == 1 else tuple(shapes))
    return None


STRANGE = [
    "", " ", "0", "1", "2", "3", "5", "6", "7", "00", "01", "02", "-1", "+1", "1_0", "1e1", "x", "A", "None", "True", "end",
    "next", "call", "shape", "cursors", "begin", "change", "CALL", "Shape", "0.0", "0.1", "0.2", "1.0", "1.1", "2.0",
    "00.0", "0.00", "0.01", "01.0", "0.", ".0", ".", "0.0.0", "0,0", "0.-1", "0.+1", "0>1", "1>0", "0>0", "0>6", "6>0",
    "0>", ">0", ">", "0>1>2", "0>01", "00>1", "1>1", "5>4", "0 >1", "64", "65", "99", "100", "9" * 3000, "9" * 5000,
    "0" * 5000, "1." + "9" * 5000, "0>" + "1" * 5000, "0." + "0" * 5000, ">" * 3000, "." * 3000, "x" * 5000, "\t", "0\t",
    "\t0", "0.0\t", "end\t",
]


def near_texts(text):
    """Texts that differ from a text in one line or one word."""
    lines = text.split("\n")
    for index in range(len(lines)):
        yield "\n".join(lines[:index])
        yield "\n".join(lines[:index] + [""])
        yield "\n".join(lines[:index] + lines[index + 1:])
        yield "\n".join(lines[:index] + [lines[index]] + lines[index:])
        yield "\n".join(lines[:index] + [""] + lines[index:])
        for other in range(len(lines)):
            turned = list(lines)
            turned[index], turned[other] = lines[other], lines[index]
            yield "\n".join(turned)
            yield "\n".join(lines[:index] + [lines[other]] + lines[index:])
        for line in near_lines(lines[index]):
            yield "\n".join(lines[:index] + [line] + lines[index + 1:])
    yield text + "\n"
    yield text + "\n\n"
    yield text + " "
    yield " " + text
    yield "\n" + text
    yield text + "\n" + text
    yield text.replace("\n", " ")
    yield text.replace("\n", "\n\n")
    yield text.replace("\n", "\t")
    yield text.replace(" ", "\n")
    yield text.replace(" ", "\t")
    yield text.upper()
    for index in range(len(text)):
        yield text[:index] + text[index + 1:]


def near_lines(line):
    words = line.split(" ")
    yield line + " "
    yield " " + line
    yield line + "\t"
    for index in range(len(words)):
        yield " ".join(words[:index] + words[index + 1:])
        yield " ".join(words[:index] + [words[index]] + words[index:])
        for word in STRANGE:
            yield " ".join(words[:index] + [word] + words[index + 1:])
            yield " ".join(words[:index] + [word] + words[index:])
        for other in range(index):
            turned = list(words)
            turned[index], turned[other] = words[other], words[index]
            yield " ".join(turned)
    for word in STRANGE:
        yield f"{line} {word}"


class TextCase(ExactCase):

    def line(self, parse, text, wanted):
        self.same(self.raises(ParseError, parse, text).line, wanted)


class TestExamples(ExactCase):

    def test_the_example(self):
        self.example("""
>>> from loosecursors.texts import format_road, format_rule, parse_road, parse_rule
>>> words = 'cursors 2\\nshape 0\\ncall 0.0 end\\ncall end\\nshape 1\\ncall 0.0 next 1\\ncall 0.1 end'
>>> rule = parse_rule(words)
>>> [rule.call((1,), 0), rule.call((0,), 1), format_rule(rule) == words]
[(((0, 0),), 1), ((), None), True]
>>> parse_road('begin 0\\nchange 0 0>1\\nchange 0>1 0>1')
raises ParseError(2)
""")


class TestThereAndBack(TextCase):

    def test_rules(self):
        rule = parse_rule(SMALL)
        self.assertIsInstance(rule, Rule)
        self.same(rule.calls, {(0,): [(((0, 0),), None), ((), None)], (1,): [(((0, 0),), 1), (((0, 1),), None)]})
        rule = parse_rule(MOVING)
        self.same(rule.cursors, 3)
        self.same(rule.calls, {
            (0, 1): [(((0, 0), (1, 0), (1, 1)), 2), ((), 0), ((), None)],
            (2,): [(((0, 0), (0, 3)), None), (((0, 1),), 1), (((0, 0), (0, 1), (0, 2), (0, 3)), 0)],
            (2, 0): [(((0, 3), (1, 0)), None), (((1, 0),), None), ((), 2)],
        })
        rule = parse_rule(ONE)
        self.same([rule.cursors, rule.calls], [1, {(5, 4): [(((0, 9), (0, 10), (0, 31), (1, 0), (1, 15)), 0)]}])

    def test_roads(self):
        road = parse_road("begin 0\nbegin 5>4\nchange 0 0>1\nchange 0>1 1")
        self.assertIsInstance(road, Road)
        self.same([road.begin, road.changes], [[(0,), (5, 4)], [((0,), (0, 1)), ((0, 1), (1,))]])
        road = parse_road("begin 3")
        self.same([road.begin, road.changes, road.shapes], [[(3,)], [], [(3,)]])

    def test_texts_of_rules(self):
        for text in RULE_TEXTS:
            self.same(format_rule(parse_rule(text)), text)

    def test_texts_of_roads(self):
        for text in ROAD_TEXTS:
            self.same(format_road(parse_road(text)), text)

    def test_a_rule_is_written_in_ascending_order(self):
        rule = Rule(1, {(1,): [((), 0)], (0, 1): [(((0, 0), (1, 1)), None)], (0,): [((), None)]})
        self.same(format_rule(rule), "cursors 1\nshape 0\ncall end\nshape 0>1\ncall 0.0 1.1 end\nshape 1\ncall next 0")
        self.assertIs(parse_rule(format_rule(rule)) == rule, True)

    def test_a_road_is_written_in_ascending_order(self):
        road = Road([(1,), (0,)], [((1,), (0,)), ((0, 1), (1,)), ((0,), (0, 1)), ((0, 1), (0,))])
        self.same(format_road(road), "begin 0\nbegin 1\nchange 0 0>1\nchange 0>1 0\nchange 0>1 1\nchange 1 0")
        self.assertIs(parse_road(format_road(road)) == road, True)

    def test_great_rules(self):
        calls = {}
        for shape in ((4,), (5,), (4, 5), (5, 4)):
            places = [(table, number) for table in range(len(shape)) for number in range(2 ** shape[table])]
            calls[shape] = [(tuple(places[cursor % 7::cursor // 9 + 1]), cursor or None) for cursor in range(64)]
        rule = Rule(64, calls)
        text = format_rule(rule)
        self.same(len(text.split("\n")), 1 + 4 * 65)
        self.assertIs(parse_rule(text) == rule, True)
        self.same(parse_rule(text).calls, rule.calls)

    def test_every_number_of_cursors(self):
        for cursors in range(1, 65):
            text = "\n".join([f"cursors {cursors}", "shape 0"] + [f"call 0.0 next {at}" for at in range(cursors)])
            self.same(format_rule(parse_rule(text)), text)
            self.line(parse_rule, text.replace("next 0", f"next {cursors}"), 2)

    def test_every_shape_and_place(self):
        for shape in SHAPES:
            places = [(table, number) for table in range(len(shape)) for number in range(2 ** shape[table])]
            words = " ".join([f"{table}.{number}" for table, number in places])
            text = f"cursors 1\nshape {'>'.join([str(width) for width in shape])}\ncall {words} end"
            self.same(parse_rule(text).calls, {shape: [(tuple(places), None)]})
            self.same(format_rule(parse_rule(text)), text)

    def test_full_roads(self):
        for shapes in (SHAPES[:12], SHAPES[24:], [(0,)], [(5, 4), (0, 1)]):
            road = full_road(shapes)
            self.assertIs(parse_road(format_road(road)) == road, True)
            self.same(len(format_road(road).split("\n")), len(shapes) ** 2)

    def test_by_name(self):
        rule, road = parse_rule(text=SMALL), parse_road(text=ROAD_TEXTS[1])
        self.same(format_rule(rule=rule), SMALL)
        self.same(format_road(road=road), ROAD_TEXTS[1])

    def test_asking_again_gives_the_same(self):
        rule, road = parse_rule(MOVING), parse_road(ROAD_TEXTS[2])
        before = [exact_rule(rule), exact_road(road)]
        self.untouched(format_rule, rule)
        self.untouched(format_road, road)
        self.same([exact_rule(rule), exact_road(road)], before)


def exact_rule(rule):
    return [rule.cursors, rule.calls]


def exact_road(road):
    return [road.begin, road.changes]


class TestWrongRules(TextCase):

    def test_no_strings(self):
        for thing in odd_things() + [parse_rule(SMALL), [SMALL], (SMALL,), SMALL.split("\n"), {SMALL: SMALL}]:
            if not isinstance(thing, str):
                self.line(parse_rule, thing, 0)

    def test_the_first_line(self):
        rest = SMALL[len("cursors 2"):]
        for line in ["", " ", "cursors", "cursors ", "cursors 0", "cursors 65", "cursors 02", "cursors -1", "cursors  2",
                     "cursors 2 ", " cursors 2", "cursors 2 2", "cursor 2", "Cursors 2", "cursors x", "cursors 2.0",
                     "cursors +2", "cursors 0x2", "cursors\t2", "cursors 2\t", "cursors " + "9" * 5000,
                     "cursors " + "0" * 5000 + "2", "2", "2 cursors", "shape 0"]:
            self.line(parse_rule, line + rest, 0)
            self.line(parse_rule, line, 0)

    def test_only_lines_are_missing(self):
        for text in RULE_TEXTS:
            lines = text.split("\n")
            cursors = int(lines[0][8:])
            for many in range(1, len(lines)):
                part = "\n".join(lines[:many])
                if many > 1 and (many - 1) % (cursors + 1) == 0:
                    self.same(format_rule(parse_rule(part)), part)
                else:
                    self.line(parse_rule, part, many)
        self.line(parse_rule, "cursors 64", 1)
        self.line(parse_rule, "cursors 64\nshape 5\ncall end", 3)

    def test_the_empty_string_and_a_line_feed_at_the_end(self):
        self.line(parse_rule, "", 0)
        self.line(parse_rule, "\n", 0)
        self.line(parse_rule, SMALL + "\n", 7)
        self.line(parse_rule, SMALL + "\n\n", 7)
        self.line(parse_rule, "cursors 2\n", 1)
        self.line(parse_rule, "cursors 2\nshape 0\n", 2)

    def test_shape_lines(self):
        for line in ["shape", "shape ", "shape 6", "shape -1", "shape 00", "shape 0>0", "shape 0>6", "shape 0>", "shape >0",
                     "shape 0>1>2", "shape 0 1", "shape 0 ", "shape  0", " shape 0", "shapes 0", "0", "call end", "call 0",
                     "shape 01", "shape 0>01", "shape x", "shape " + "1" * 5000, "shape 0>" + "1" * 5000, "shape 0.1"]:
            self.line(parse_rule, f"cursors 1\n{line}\ncall end", 1)
            self.line(parse_rule, f"cursors 1\nshape 0\ncall end\n{line}\ncall end", 3)

    def test_shapes_that_do_not_ascend(self):
        for first, second in (("0", "0"), ("1", "0"), ("1", "0>5"), ("0>2", "0>1"), ("0>1", "0"), ("5>4", "5"), ("2", "2")):
            self.line(parse_rule, f"cursors 1\nshape {first}\ncall end\nshape {second}\ncall end", 3)
        for first, second in (("0", "0>1"), ("0>5", "1"), ("0>1", "0>2"), ("5", "5>4")):
            text = f"cursors 1\nshape {first}\ncall end\nshape {second}\ncall end"
            self.same(format_rule(parse_rule(text)), text)

    def test_call_lines(self):
        for line in ["", "call", "call ", "end", "call end ", "call  end", " call end", "call next", "call next 2",
                     "call next -1", "call next 00", "call next 01", "call end next 0", "call next 0 end", "call next 0 0",
                     "call 0.0", "call 0.0 0.0 end", "call 0.1 0.0 end", "call 0.2 end", "call 1.0 end", "call 00.0 end",
                     "call 0.00 end", "call 0.01 end", "call 0 end", "call 0. end", "call .0 end", "call 0.0.0 end",
                     "call 0.0  end", "call 0.0 next  1", "call 0,0 end", "call 0.0\tend", "calls end", "shape 2",
                     "call 0.0 end end", "call end 0.0", "call next 1 0.0", "call 0.0 1", "call 0.0 None", "call 0.-0 end",
                     "call next " + "1" * 5000, "call next " + "0" * 5000, "call 0." + "1" * 5000 + " end",
                     "call " + "0" * 5000 + ".0 end", "call 0.0 ext 1", "call call end", "next 1", "call 0>1 end"]:
            self.line(parse_rule, f"cursors 2\nshape 1\n{line}\ncall end", 2)
            self.line(parse_rule, f"cursors 2\nshape 1\ncall end\n{line}", 3)

    def test_too_many_and_too_few_calls(self):
        self.line(parse_rule, "cursors 1\nshape 0\ncall end\ncall end", 3)
        self.line(parse_rule, "cursors 2\nshape 0\ncall end\nshape 1\ncall end\ncall end", 3)
        self.line(parse_rule, "cursors 2\nshape 0\ncall end\ncall end\ncall end\nshape 1", 4)

    def test_the_first_wrong_line_is_told(self):
        self.line(parse_rule, "cursors 2\nshape 0\ncall 0.5 end\nwrong\nshape 0", 2)
        self.line(parse_rule, "cursors 0\nshape 9\ncall 0.5 end", 0)

    def test_what_is_near_a_text(self):
        for text in RULE_TEXTS:
            self.assertIsNone(rule_line_by_hand(text))
            for other in near_texts(text):
                wanted = rule_line_by_hand(other)
                if wanted is None:
                    self.same(format_rule(parse_rule(other)), other)
                else:
                    self.line(parse_rule, other, wanted)


class TestWrongRoads(TextCase):

    def test_no_strings(self):
        for thing in odd_things() + [parse_road("begin 0"), ["begin 0"], ("begin 0",), {"begin 0": 1}]:
            if not isinstance(thing, str):
                self.line(parse_road, thing, 0)

    def test_the_empty_string_and_a_line_feed_at_the_end(self):
        self.line(parse_road, "", 0)
        self.line(parse_road, "\n", 0)
        self.line(parse_road, "begin 0\n", 1)
        self.line(parse_road, "begin 0\n\n", 1)
        self.line(parse_road, "begin 0\nchange 0 1\n", 2)

    def test_a_text_may_end_behind_any_line(self):
        for text in ROAD_TEXTS:
            lines = text.split("\n")
            for many in range(1, len(lines) + 1):
                part = "\n".join(lines[:many])
                self.same(format_road(parse_road(part)), part)

    def test_lines_that_begin(self):
        for line in ["begin", "begin ", "begin 6", "begin 00", "begin -1", "begin 0>0", "begin 0>6", "begin 0>", "begin >0",
                     "begin 0>1>2", "begin 0 1", "begin 0 ", "begin  0", " begin 0", "Begin 0", "0", "begins 0", "begin x",
                     "begin\t0", "begin " + "1" * 5000, "begin 0>" + "1" * 5000, "shape 0", "begin 01"]:
            self.line(parse_road, line, 0)
            self.line(parse_road, f"begin 0\n{line}\nchange 0 1", 1)

    def test_begin_that_does_not_ascend(self):
        for first, second in (("0", "0"), ("1", "0"), ("1", "0>5"), ("0>1", "0"), ("0>2", "0>1"), ("5>4", "5")):
            self.line(parse_road, f"begin {first}\nbegin {second}", 1)

    def test_changes(self):
        for line in ["", "change", "change ", "change 0", "change 0 ", "change 0 0", "change 0>1 0>1", "change 0 6",
                     "change 6 0", "change 0 1 2", "change 0 1 ", "change  0 1", "change 0  1", " change 0 1", "change 0 01",
                     "change 00 1", "Change 0 1", "changes 0 1", "0 1", "change 0 1>1", "change 0>0 1", "change 0\t1",
                     "change 0 1>", "change 0 " + "1" * 5000, "change " + "1" * 5000 + " 0", "change 0 1\t", "change 0>1"]:
            self.line(parse_road, f"begin 0\n{line}", 1)
            self.line(parse_road, f"begin 0\nchange 0 0>1\n{line}\nchange 5 4", 2)

    def test_changes_that_do_not_ascend(self):
        for first, second in (("0 1", "0 1"), ("0 1", "0 0>1"), ("1 0", "0 1"), ("0>1 0", "0 1"), ("1 2", "1 0>5"),
                              ("5>4 5", "5>4 4")):
            self.line(parse_road, f"begin 0\nchange {first}\nchange {second}", 2)

    def test_a_change_ahead_of_begin_and_a_begin_behind_a_change(self):
        self.line(parse_road, "change 0 1", 0)
        self.line(parse_road, "change 0 1\nbegin 0", 0)
        self.line(parse_road, "begin 0\nchange 0 1\nbegin 1", 2)

    def test_what_is_near_a_text(self):
        for text in ROAD_TEXTS:
            self.assertIsNone(road_line_by_hand(text))
            for other in near_texts(text):
                wanted = road_line_by_hand(other)
                if wanted is None:
                    self.same(format_road(parse_road(other)), other)
                else:
                    self.line(parse_road, other, wanted)

    def test_the_text_of_the_other_kind(self):
        for text in ROAD_TEXTS:
            self.line(parse_rule, text, 0)
        for text in RULE_TEXTS:
            self.line(parse_road, text, 0)


if __name__ == "__main__":
    unittest.main()
