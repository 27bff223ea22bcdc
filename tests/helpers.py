"""What the tests share: odd objects, objects near a given one, exact comparisons, and the document's examples."""

import copy
import re
import unittest

WIDTHS = list(range(6))
SHAPES = sorted([(w,) for w in WIDTHS] + [(v, w) for v in WIDTHS for w in WIDTHS if v != w])


def nested(depth, wrap, core=0):
    thing = core
    for _ in range(depth):
        thing = wrap(thing)
    return thing


def odd_things():
    """Objects of all kinds, new ones each time; some are widths, hashes, shapes or places."""
    return [
        -1, 0, 1, 2, 3, 4, 5, 6, 7, 31, 32, 33, 63, 64, 65, 100, -31, -32,
        10 ** 39, 10 ** 40 - 1, -10 ** 39, 2 ** 64, 2 ** 64 + 1, -2 ** 32,
        True, False, None, "", "0", "1", "a", "(0,)", " ", "\n", "\t", "cursors 1", "1.0", "9" * 5000,
        (), (0,), (1,), (5,), (6,), (-1,), (True,), (False,), (None,), ("0",), (10 ** 39,), ((0,),), ([0],), ({},),
        (0, 1), (1, 0), (5, 4), (0, 0), (5, 5), (0, 6), (6, 0), (-1, 0), (True, 0), (1, False), (True, False),
        (0, None), (None, 0), (0, "1"), (0, [1]), (0, (1,)), (0, 1, 2), (0, 1, 0), ((0,), (1,)), ((0,), False),
        ((), None), (((0, 0),), None), (((0, 0),), 0), ([], None), ((0, 0), (0, 0)),
        [], [0], [1], [0, 1], [1, 0], [True], [False, 1], [None], [(0,)], [(0,), (1,)], [(0, 0)], [[]], [[0], [1]],
        [((0,), False)], ["begin 0"],
        {}, {0: 1}, {(0,): []}, {(0,): [((), None)]}, {"a": [1]}, {(0, 1): 2}, {((0,), (1,)): 5},
        nested(20, lambda thing: [thing]), nested(20, lambda thing: (thing,)), nested(20, lambda thing: {0: thing}),
        nested(19, lambda thing: (thing, thing)[:1], (0,)), nested(19, lambda thing: [thing, 1], (0, 1)),
        list(range(5000)), tuple(range(5000)), [(0,)] * 2000, {number: number for number in range(2000)},
    ]


def is_one_of(thing, wanted):
    """Whether a thing is one of some plain objects; True is not 1 here, and a list is no tuple."""
    return exact(thing) in {exact(item) for item in wanted}


def exact(thing):
    """A text that tells 1 from True and a list from a tuple, with dicts in their order."""
    return repr(thing)


ATOMS = [None, True, False, 0, 1, 2, -1, 64, 10 ** 39, "0", "", (), [], {}, (0,), [0], (0, 0), [(0, 0)]]


def near(thing):
    """Things that differ from a thing in one place: exchanged, left out, doubled, turned, greater or less."""
    for atom in ATOMS:
        yield copy.deepcopy(atom)
    if isinstance(thing, bool):
        yield int(thing)
        yield not thing
    elif isinstance(thing, int):
        yield thing + 1
        yield thing - 1
        yield -thing
        yield bool(thing)
        yield str(thing)
    elif isinstance(thing, str):
        yield thing + " "
        yield " " + thing
        yield thing[1:]
        yield thing[:-1]
    elif isinstance(thing, tuple):
        yield list(thing)
        for other in near_rows(list(thing)):
            yield tuple(other)
    elif isinstance(thing, list):
        yield tuple(thing)
        yield from near_rows(thing)
    elif isinstance(thing, dict):
        yield from near_dicts(thing)


def near_rows(rows):
    yield rows[::-1]
    yield rows + rows
    for index in range(len(rows)):
        yield rows[:index] + rows[index + 1:]
        yield rows[:index] + [rows[index]] + rows[index:]
        for other in near(rows[index]):
            yield rows[:index] + [other] + rows[index + 1:]
    for index in range(len(rows) + 1):
        yield rows[:index] + [None] + rows[index:]
    for index in range(1, len(rows)):
        yield rows[:index - 1] + [rows[index], rows[index - 1]] + rows[index + 1:]


def near_dicts(table):
    yield list(table.items())
    yield list(table)
    yield tuple(table.items())
    for key in table:
        yield {other: table[other] for other in table if other != key}
        for other in near(table[key]):
            yield {name: other if name == key else table[name] for name in table}
        for other in near(key):
            if is_key(other):
                yield {other if name == key else name: table[name] for name in table}
    for key in (0, "0", (True,), (0, 0), (6,), ()):
        yield {**{name: table[name] for name in table if name != key}, key: []}


def is_key(thing):
    try:
        hash(thing)
    except TypeError:
        return False
    return True


class ExactCase(unittest.TestCase):
    """A test case that tells 1 from True, and looks after what is passed."""

    def same(self, found, wanted):
        self.assertEqual(exact(found), exact(wanted))

    def raises(self, error, function, *args, **named):
        """The call raises this very class and leaves what it was passed as it was; the error is returned."""
        before = exact((args, named))
        with self.assertRaises(error) as caught:
            function(*args, **named)
        self.assertIs(caught.exception.__class__, error, before[:200])
        self.assertEqual(exact((args, named)), before)
        return caught.exception

    def untouched(self, function, *args):
        """The call leaves what it was passed as it was, and says the same when it is asked again."""
        before = exact(args)
        found = function(*args)
        self.assertEqual(exact(args), before)
        self.assertEqual(exact(function(*args)), exact(found))
        return found

    def fresh(self, function, *args):
        """A returned list or dict may be changed without any effect on a later call."""
        first = function(*args)
        before = exact(first)
        self.assertIsNot(first, function(*args))
        spoil_all(first)
        self.assertEqual(exact(function(*args)), before)

    def example(self, text):
        """Run an example of the document: each line is shown as it stands, or raises the error that is named."""
        names = {}
        lines = text.strip("\n").split("\n")
        for index, line in enumerate(lines):
            if not line.startswith(">>> "):
                continue
            shown = lines[index + 1] if index + 1 < len(lines) else ""
            code = line[4:]
            if shown.startswith("raises "):
                self.example_raises(code, names, shown)
            elif shown and not shown.startswith(">>> "):
                self.assertEqual(repr(eval(code, names)), shown)
            else:
                exec(code, names)

    def example_raises(self, code, names, shown):
        name, number = re.fullmatch(r"raises (\w+)(?:\((\d+)\))?", shown).groups()
        with self.assertRaises(ValueError) as caught:
            eval(code, names)
        self.assertEqual(caught.exception.__class__.__name__, name)
        if number is not None:
            self.same(caught.exception.line, int(number))


def spoil_all(thing):
    """Change a list or a dict, and those within it."""
    if isinstance(thing, dict):
        for item in list(thing.values()):
            spoil_all(item)
        thing["spoilt"] = "spoilt"
    elif isinstance(thing, list):
        for item in thing:
            spoil_all(item)
        thing.append("spoilt")
        thing.reverse()
