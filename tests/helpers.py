"""What the tests share: odd objects, objects near a given one, exact comparisons, the document's examples, and rules
and roads that are drawn, with what can be reckoned of them by hand."""

import copy
import random
import re
import unittest

from loosecursors.roads import Road
from loosecursors.rules import Rule

WIDTHS = list(range(6))
SHAPES = sorted([(w,) for w in WIDTHS] + [(v, w) for v in WIDTHS for w in WIDTHS if v != w])


def nested(depth, wrap, core=0):
    thing = core
    for _ in range(depth):
        thing = wrap(thing)
    return thing


def odd_things():
    """Objects of all kinds, new ones each time; some are widths, hashes, shapes or places."""
    return [
        -1, 0, 1, 2, 3, 4, 5, 6, 7, 31, 32, 33, 63, 64, 65, 100, -31, -32,
        10 ** 39, 10 ** 40 - 1, -10 ** 39, 2 ** 64, 2 ** 64 + 1, -2 ** 32,
        True, False, None, "", "0", "1", "a", "(0,)", " ", "\n", "\t", "cursors 1", "1.0", "9" * 5000,
        (), (0,), (1,), (5,), (6,), (-1,), (True,), (False,), (None,), ("0",), (10 ** 39,), ((0,),), ([0],), ({},),
        (0, 1), (1, 0), (5, 4), (0, 0), (5, 5), (0, 6), (6, 0), (-1, 0), (True, 0), (1, False), (True, False),
        (0, None), (None, 0), (0, "1"), (0, [1]), (0, (1,)), (0, 1, 2), (0, 1, 0), ((0,), (1,)), ((0,), False),
        ((), None), (((0, 0),), None), (((0, 0),), 0), ([], None), ((0, 0), (0, 0)),
        [], [0], [1], [0, 1], [1, 0], [True], [False, 1], [None], [(0,)], [(0,), (1,)], [(0, 0)], [[]], [[0], [1]],
        [((0,), False)], ["begin 0"],
        {}, {0: 1}, {(0,): []}, {(0,): [((), None)]}, {"a": [1]}, {(0, 1): 2}, {((0,), (1,)): 5},
        nested(20, lambda thing: [thing]), nested(20, lambda thing: (thing,)), nested(20, lambda thing: {0: thing}),
        nested(19, lambda thing: (thing, thing)[:1], (0,)), nested(19, lambda thing: [thing, 1], (0, 1)),
        list(range(5000)), tuple(range(5000)), [(0,)] * 2000, {number: number for number in range(2000)},
    ]


def is_one_of(thing, wanted):
    """Whether a thing is one of some plain objects; True is not 1 here, and a list is no tuple."""
    return exact(thing) in {exact(item) for item in wanted}


def exact(thing):
    """A text that tells 1 from True and a list from a tuple, with dicts in their order."""
    return repr(thing)


ATOMS = [None, True, False, 0, 1, 2, -1, 64, 10 ** 39, "0", "", (), [], {}, (0,), [0], (0, 0), [(0, 0)]]


def near(thing):
    """Things that differ from a thing in one place: exchanged, left out, doubled, turned, greater or less."""
    for atom in ATOMS:
        yield copy.deepcopy(atom)
    if isinstance(thing, bool):
        yield int(thing)
        yield not thing
    elif isinstance(thing, int):
        yield thing + 1
        yield thing - 1
        yield -thing
        yield bool(thing)
        yield str(thing)
    elif isinstance(thing, str):
        yield thing + " "
        yield " " + thing
        yield thing[1:]
        yield thing[:-1]
    elif isinstance(thing, tuple):
        yield list(thing)
        for other in near_rows(list(thing)):
            yield tuple(other)
    elif isinstance(thing, list):
        yield tuple(thing)
        yield from near_rows(thing)
    elif isinstance(thing, dict):
        yield from near_dicts(thing)


def near_rows(rows):
    yield rows[::-1]
    yield rows + rows
    for index in range(len(rows)):
        yield rows[:index] + rows[index + 1:]
        yield rows[:index] + [rows[index]] + rows[index:]
        for other in near(rows[index]):
            yield rows[:index] + [other] + rows[index + 1:]
    for index in range(len(rows) + 1):
        yield rows[:index] + [None] + rows[index:]
    for index in range(1, len(rows)):
        yield rows[:index - 1] + [rows[index], rows[index - 1]] + rows[index + 1:]


def near_dicts(table):
    yield list(table.items())
    yield list(table)
    yield tuple(table.items())
    for key in table:
        yield {other: table[other] for other in table if other != key}
        for other in near(table[key]):
            yield {name: other if name == key else table[name] for name in table}
        for other in near(key):
            if is_key(other):
                yield {other if name == key else name: table[name] for name in table}
    for key in (0, "0", (True,), (0, 0), (6,), ()):
        yield {**{name: table[name] for name in table if name != key}, key: []}


def is_key(thing):
    try:
        hash(thing)
    except TypeError:
        return False
    return True


class ExactCase(unittest.TestCase):
    """A test case that tells 1 from True, and looks after what is passed."""

    def same(self, found, wanted):
        self.assertEqual(exact(found), exact(wanted))

    def raises(self, error, function, *args, **named):
        """The call raises this very class and leaves what it was passed as it was; the error is returned."""
        before = exact((args, named))
        with self.assertRaises(error) as caught:
            function(*args, **named)
        self.assertIs(caught.exception.__class__, error, before[:200])
        self.assertEqual(exact((args, named)), before)
        return caught.exception

    def untouched(self, function, *args):
        """The call leaves what it was passed as it was, and says the same when it is asked again."""
        before = exact(args)
        found = function(*args)
        self.assertEqual(exact(args), before)
        self.assertEqual(exact(function(*args)), exact(found))
        return found

    def fresh(self, function, *args):
        """A returned list or dict may be changed without any effect on a later call."""
        first = function(*args)
        before = exact(first)
        self.assertIsNot(first, function(*args))
        spoil_all(first)
        self.assertEqual(exact(function(*args)), before)

    def example(self, text):
        """Run an example of the document: each line is shown as it stands, or raises the error that is named."""
        names = {}
        lines = text.strip("\n").split("\n")
        for index, line in enumerate(lines):
            if not line.startswith(">>> "):
                continue
            shown = lines[index + 1] if index + 1 < len(lines) else ""
            code = line[4:]
            if shown.startswith("raises "):
                self.example_raises(code, names, shown)
            elif shown and not shown.startswith(">>> "):
                self.assertEqual(repr(eval(code, names)), shown)
            else:
                exec(code, names)

    def example_raises(self, code, names, shown):
        name, number = re.fullmatch(r"raises (\w+)(?:\((\d+)\))?", shown).groups()
        with self.assertRaises(ValueError) as caught:
            eval(code, names)
        self.assertEqual(caught.exception.__class__.__name__, name)
        if number is not None:
            self.same(caught.exception.line, int(number))


def spoil_all(thing):
    """Change a list or a dict, and those within it."""
    if isinstance(thing, dict):
        for item in list(thing.values()):
            spoil_all(item)
        thing["spoilt"] = "spoilt"
    elif isinstance(thing, list):
        for item in thing:
            spoil_all(item)
        thing.append("spoilt")
        thing.reverse()


WRONG_HASHES = [-1, 32, 33, True, False, None, "0", "", (0,), [0], [], {}, {0: 1}, 10 ** 39, -10 ** 39]
WRONG_NUMBERS = [-1, -2, True, False, None, "0", "1", "", (0,), [0], [], {}, {0: 1}, -10 ** 39]


def moves(shape):
    return [False, True][:len(shape)]


def all_places(shape):
    return [(table, number) for table in range(len(shape)) for number in range(2 ** shape[table])]


def draw_call(rand, cursors, shape, density, ending, least=0):
    listed = tuple([place for place in all_places(shape) if rand.random() < density])
    return (listed, None if rand.random() < ending or least >= cursors else rand.randrange(least, cursors))


def draw_rule(rand, shapes=None, cursors=None):
    """A rule with one to four small shapes and one to five cursors, or with those that are named."""
    widths = rand.choice([(0, 1), (0, 1, 2), (1, 2), (0, 3), (0, 1, 5)])
    among = [shape for shape in SHAPES if set(shape) <= set(widths)]
    shapes = shapes or rand.sample(among, rand.randrange(1, min(4, len(among)) + 1))
    cursors = cursors or rand.randrange(1, 6)
    density, ending = rand.choice([0, 0.2, 0.5, 0.8, 1]), rand.choice([0, 0.1, 0.3, 0.6])
    # With a step the cursors only rise, so that every listing ends.
    step = rand.choice([0, 0, 1])
    return Rule(cursors, {shape: [draw_call(rand, cursors, shape, density, ending, step * (cursor + 1))
                                  for cursor in range(cursors)] for shape in shapes})


def draw_road(rand, shapes):
    """A road of some of the shapes, perhaps one without changes."""
    chance = rand.choice([0, 0.3, 0.6, 1])
    changes = [(shape, other) for shape in shapes for other in shapes if shape != other and rand.random() < chance]
    rand.shuffle(changes)
    return Road(rand.sample(shapes, rand.randrange(1, len(shapes) + 1)), changes)


def draw(seed, many):
    """So many tuples (rand, rule, road)."""
    rand = random.Random(seed)
    for _ in range(many):
        rule = draw_rule(rand)
        yield rand, rule, draw_road(rand, rule.shapes)


def turned_about(rand, table):
    """The same dict with its keys put in in another order."""
    keys = list(table)
    rand.shuffle(keys)
    return {key: table[key] for key in keys}


def code_for(rand, road):
    """A hash that is drawn from few, so that all of a small table's buckets come up, or from all."""
    return rand.choice([rand.randrange(4), rand.randrange(32)])


class World:
    """The situations of a rule and a road by hand; a hash of None stands for every call."""

    def __init__(self, rule, road):
        shapes = sorted({*road.begin, *[shape for change in road.changes for shape in change]})
        calls, changes = rule.calls, set(road.changes)
        self.rule, self.road = rule, road
        self.states = [(shape, cursor) for shape in shapes for cursor in range(rule.cursors)]
        self.situations = [(shape, moved, cursor) for shape, cursor in self.states for moved in moves(shape)]
        self.call = {situation: calls[situation[0]][situation[2]] for situation in self.situations}
        self.begin = [situation for situation in self.situations if situation[0] in road.begin and situation[2] == 0]
        self.behind = {}
        for one in self.situations:
            self.behind[one] = [two for two in self.situations if two[2] == self.call[one][1]
                                and (two[0] == one[0] or (one[0], two[0]) in changes)]

    def ends(self, situation):
        return self.call[situation][1] is None

    def lists(self, situation, code):
        shape, moved, _ = situation
        table = 1 if moved else 0
        return code is None or (table, code % 2 ** shape[table]) in self.call[situation][0]

    def followed(self, run):
        """The situations of a run, or None if the list of its steps is none."""
        found = []
        for step in run:
            among = self.behind[found[-1]] if found else self.begin
            found += [one for one in among if exact(one[:2]) == exact(step)][:1] or [None]
            if found[-1] is None:
                return None
        return found or None

    def missed(self, code):
        """The first of the shortest runs that miss a hash: the least run to each situation, for each length."""
        rows = {one: [one[:2]] for one in self.begin if not self.lists(one, code)}
        for _ in self.situations:
            whole = sorted([run for one, run in rows.items() if self.ends(one)])
            if whole:
                return whole[0]
            longer = {}
            for one, run in rows.items():
                for two in self.behind[one]:
                    if not self.lists(two, code):
                        longer[two] = min(longer.get(two, run + [two[:2]]), run + [two[:2]])
            rows = longer
        return None

    def totals(self, code):
        """All tuples (situation, calls up to it that list the hash), as far as these are not too many."""
        found, rest = set(), [(one, int(self.lists(one, code))) for one in self.begin]
        while rest:
            one, total = rest.pop()
            if (one, total) not in found:
                found.add((one, total))
                if total <= len(self.situations):
                    rest += [(two, total + int(self.lists(two, code))) for two in self.behind[one]]
        return found

    def most(self, code):
        number = max([total for _, total in self.totals(code)])
        return None if number > len(self.situations) else number

    def fewest(self, code):
        return min([total for one, total in self.totals(code) if self.ends(one)], default=None)


def row_by_hand(rule, cursor, other, beside):
    """The first of the shortest rows of shapes that tell two rules that begin so apart: the least rows to all pairs of
    cursors, for each length."""
    calls, others = rule.calls, other.calls
    rows = {(cursor, beside): []}
    for _ in range(rule.cursors * other.cursors):
        apart, longer = [], {}
        for (one, two), row in rows.items():
            for shape in calls:
                (listed, later), (found, following) = calls[shape][one], others[shape][two]
                if listed != found or (later is None) != (following is None):
                    apart.append(row + [shape])
                elif later is not None:
                    pair = (later, following)
                    longer[pair] = min(longer.get(pair, row + [shape]), row + [shape])
        if apart:
            return min(apart)
        rows = longer
    return None


def renumbered(rule, numbers):
    """The rule with its cursors numbered otherwise; numbers[0] must be 0."""
    calls = {}
    for shape, row in rule.calls.items():
        calls[shape] = [None] * rule.cursors
        for cursor, (listed, later) in enumerate(row):
            calls[shape][numbers[cursor]] = (listed, None if later is None else numbers[later])
    return Rule(rule.cursors, calls)


def with_more_cursors(rand, rule, many):
    """The rule with so many cursors more that no call goes to."""
    calls = rule.calls
    for shape in calls:
        calls[shape] += [draw_call(rand, rule.cursors + many, shape, 0.4, 0.3) for _ in range(many)]
    return Rule(rule.cursors + many, calls)


def doubled(rand, rule):
    """The rule with each cursor twice; calls go on with either."""
    many = rule.cursors
    calls = {shape: [(listed, None if later is None else later + many * rand.randrange(2)) for listed, later in row * 2]
             for shape, row in rule.calls.items()}
    return Rule(many * 2, calls)


def shuffled_cursors(rand, many):
    """The numbers of as many cursors in another order, with 0 in its place."""
    return [0] + rand.sample(range(1, many), many - 1)
