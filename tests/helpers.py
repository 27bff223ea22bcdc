"""What the tests share: odd objects, objects near a given one, exact comparisons, the document's examples, and rules
and roads that are drawn, with what can be reckoned of them by hand."""

import copy
import random
import re
import unittest

from loosecursors import errors
from loosecursors.roads import Road
from loosecursors.rules import Rule
from loosecursors.texts import parse_rule

WIDTHS = list(range(6))
SHAPES = sorted([(w,) for w in WIDTHS] + [(v, w) for v in WIDTHS for w in WIDTHS if v != w])


def nested(depth, wrap, core=0):
    thing = core
    for _ in range(depth):
        thing = wrap(thing)
    return thing


def odd_things():
    """Objects of all kinds, new ones each time; some are widths, hashes, shapes or places."""
    return [
        -1, 0, 1, 2, 3, 4, 5, 6, 7, 31, 32, 33, 63, 64, 65, 100, -31, -32,
        10 ** 39, 10 ** 40 - 1, -10 ** 39, 2 ** 64, 2 ** 64 + 1, -2 ** 32,
        True, False, None, "", "0", "1", "a", "(0,)", " ", "\n", "\t", "cursors 1", "1.0", "9" * 5000,
        (), (0,), (1,), (5,), (6,), (-1,), (True,), (False,), (None,), ("0",), (10 ** 39,), ((0,),), ([0],), ({},),
        (0, 1), (1, 0), (5, 4), (0, 0), (5, 5), (0, 6), (6, 0), (-1, 0), (True, 0), (1, False), (True, False),
        (0, None), (None, 0), (0, "1"), (0, [1]), (0, (1,)), (0, 1, 2), (0, 1, 0), ((0,), (1,)), ((0,), False),
        ((), None), (((0, 0),), None), (((0, 0),), 0), ([], None), ((0, 0), (0, 0)),
        [], [0], [1], [0, 1], [1, 0], [True], [False, 1], [None], [(0,)], [(0,), (1,)], [(0, 0)], [[]], [[0], [1]],
        [((0,), False)], ["begin 0"],
        {}, {0: 1}, {(0,): []}, {(0,): [((), None)]}, {"a": [1]}, {(0, 1): 2}, {((0,), (1,)): 5},
        nested(20, lambda thing: [thing]), nested(20, lambda thing: (thing,)), nested(20, lambda thing: {0: thing}),
        nested(19, lambda thing: (thing, thing)[:1], (0,)), nested(19, lambda thing: [thing, 1], (0, 1)),
        list(range(5000)), tuple(range(5000)), [(0,)] * 2000, {number: number for number in range(2000)},
    ]


def is_one_of(thing, wanted):
    """Whether a thing is one of some plain objects; True is not 1 here, and a list is no tuple."""
    return exact(thing) in {exact(item) for item in wanted}


def exact(thing):
    """A text that tells 1 from True and a list from a tuple, with dicts in their order."""
    return repr(thing)


ATOMS = [None, True, False, 0, 1, 2, -1, 64, 10 ** 39, "0", "", (), [], {}, (0,), [0], (0, 0), [(0, 0)]]


def near(thing):
    """Things that differ from a thing in one place: exchanged, left out, doubled, turned, greater or less."""
    for atom in ATOMS:
        yield copy.deepcopy(atom)
    if isinstance(thing, bool):
        yield int(thing)
        yield not thing
    elif isinstance(thing, int):
        yield thing + 1
        yield thing - 1
        yield -thing
        yield bool(thing)
        yield str(thing)
    elif isinstance(thing, str):
        yield thing + " "
        yield " " + thing
        yield thing[1:]
        yield thing[:-1]
    elif isinstance(thing, tuple):
        yield list(thing)
        for other in near_rows(list(thing)):
            yield tuple(other)
    elif isinstance(thing, list):
        yield tuple(thing)
        yield from near_rows(thing)
    elif isinstance(thing, dict):
        yield from near_dicts(thing)


def near_rows(rows):
    yield rows[::-1]
    yield rows + rows
    for index in range(len(rows)):
        yield rows[:index] + rows[index + 1:]
        yield rows[:index] + [rows[index]] + rows[index:]
        for other in near(rows[index]):
            yield rows[:index] + [other] + rows[index + 1:]
    for index in range(len(rows) + 1):
        yield rows[:index] + [None] + rows[index:]
    for index in range(1, len(rows)):
        yield rows[:index - 1] + [rows[index], rows[index - 1]] + rows[index + 1:]


def near_dicts(table):
    yield list(table.items())
    yield list(table)
    yield tuple(table.items())
    for key in table:
        yield {other: table[other] for other in table if other != key}
        for other in near(table[key]):
            yield {name: other if name == key else table[name] for name in table}
        for other in near(key):
            if is_key(other):
                yield {other if name == key else name: table[name] for name in table}
    for key in (0, "0", (True,), (0, 0), (6,), ()):
        yield {**{name: table[name] for name in table if name != key}, key: []}


def is_key(thing):
    try:
        hash(thing)
    except TypeError:
        return False
    return True


class ExactCase(unittest.TestCase):
    """A test case that tells 1 from True, and looks after what is passed."""

    def same(self, found, wanted):
        self.assertEqual(exact(found), exact(wanted))

    def raises(self, error, function, *args, **named):
        """The call raises this very class and leaves what it was passed as it was; the error is returned."""
        before = exact((args, named))
        with self.assertRaises(error) as caught:
            function(*args, **named)
        self.assertIs(caught.exception.__class__, error, before[:200])
        self.assertEqual(exact((args, named)), before)
        return caught.exception

    def untouched(self, function, *args):
        """The call leaves what it was passed as it was, and says the same when it is asked again."""
        before = exact(args)
        found = function(*args)
        self.assertEqual(exact(args), before)
        self.assertEqual(exact(function(*args)), exact(found))
        return found

    def fresh(self, function, *args):
        """A returned list or dict may be changed without any effect on a later call."""
        first = function(*args)
        before = exact(first)
        self.assertIsNot(first, function(*args))
        spoil_all(first)
        self.assertEqual(exact(function(*args)), before)

    def example(self, text):
        """Run an example of the document: each line is shown as it stands, or raises the error that is named."""
        names = {}
        lines = text.strip("\n").split("\n")
        for index, line in enumerate(lines):
            if not line.startswith(">>> "):
                continue
            shown = lines[index + 1] if index + 1 < len(lines) else ""
            code = line[4:]
            if shown.startswith("raises "):
                self.example_raises(code, names, shown)
            elif shown and not shown.startswith(">>> "):
                self.assertEqual(repr(eval(code, names)), shown)
            else:
                exec(code, names)

    def example_raises(self, code, names, shown):
        name, number = re.fullmatch(r"raises (\w+)(?:\((\d+)\))?", shown).groups()
        with self.assertRaises(ValueError) as caught:
            eval(code, names)
        self.assertEqual(caught.exception.__class__.__name__, name)
        if number is not None:
            self.same(caught.exception.line, int(number))


def spoil_all(thing):
    """Change a list or a dict, and those within it."""
    if isinstance(thing, dict):
        for item in list(thing.values()):
            spoil_all(item)
        thing["spoilt"] = "spoilt"
    elif isinstance(thing, list):
        for item in thing:
            spoil_all(item)
        thing.append("spoilt")
        thing.reverse()


WRONG_HASHES = [-1, 32, 33, True, False, None, "0", "", (0,), [0], [], {}, {0: 1}, 10 ** 39, -10 ** 39]
WRONG_WIDTHS = [-1, 6, 31, True, False, None, "0", "", (0,), [1], [], {}, {0: 1}, 10 ** 39, -10 ** 39]
WRONG_NAMES = ["", "abcdefghi", "a" * 5000, "A", "aB", "a1", "0", "a b", " a", "a ", "a\n", "\na", "\n", "a\tb", "a_b", "a-b",
               "a.b", "`", "{", "None", None, True, False, 0, 1, 10 ** 39, (), ("a",), ["a"], [], {}, {"a": 1}]
WRONG_NUMBERS = [-1, -2, True, False, None, "0", "1", "", (0,), [0], [], {}, {0: 1}, -10 ** 39]


def moves(shape):
    return [False, True][:len(shape)]


def all_places(shape):
    return [(table, number) for table in range(len(shape)) for number in range(2 ** shape[table])]


def draw_call(rand, cursors, shape, density, ending, least=0):
    listed = tuple([place for place in all_places(shape) if rand.random() < density])
    return (listed, None if rand.random() < ending or least >= cursors else rand.randrange(least, cursors))


def draw_rule(rand, shapes=None, cursors=None):
    """A rule with one to four small shapes and one to five cursors, or with those that are named."""
    widths = rand.choice([(0, 1), (0, 1, 2), (1, 2), (0, 3), (0, 1, 5)])
    among = [shape for shape in SHAPES if set(shape) <= set(widths)]
    shapes = shapes or rand.sample(among, rand.randrange(1, min(4, len(among)) + 1))
    cursors = cursors or rand.randrange(1, 6)
    density, ending = rand.choice([0, 0.2, 0.5, 0.8, 1]), rand.choice([0, 0.1, 0.3, 0.6])
    # With a step the cursors only rise, so that every listing ends.
    step = rand.choice([0, 0, 1])
    return Rule(cursors, {shape: [draw_call(rand, cursors, shape, density, ending, step * (cursor + 1))
                                  for cursor in range(cursors)] for shape in shapes})


def draw_road(rand, shapes):
    """A road of some of the shapes, perhaps one without changes."""
    chance = rand.choice([0, 0.3, 0.6, 1])
    changes = [(shape, other) for shape in shapes for other in shapes if shape != other and rand.random() < chance]
    rand.shuffle(changes)
    return Road(rand.sample(shapes, rand.randrange(1, len(shapes) + 1)), changes)


def drawn_shapes(seed, many, shapes=SHAPES, most=12):
    """So many tuples (rand, shapes): lists of different shapes in any order, so many of them at most."""
    rand = random.Random(seed)
    for _ in range(many):
        yield rand, rand.sample(shapes, rand.randrange(1, min(most, len(shapes)) + 1))


def draw(seed, many):
    """So many tuples (rand, rule, road)."""
    rand = random.Random(seed)
    for _ in range(many):
        rule = draw_rule(rand)
        yield rand, rule, draw_road(rand, rule.shapes)


def draw_sound_rule(rand, shapes, cursors):
    """A rule by which no run of one shape alone misses a hash: each shape has a row of cursors of its own, on which each
    bucket of the smaller table is listed once, beside all to which its keys are moved."""
    density, ending = rand.choice([0, 0, 0.4]), rand.choice([0, 0.3, 0.6])
    calls = {}
    for shape in shapes:
        row = shuffled_cursors(rand, cursors)[:rand.randrange(1, cursors + 1)]
        among = {number: rand.choice(row) for number in range(2 ** min(shape))}
        calls[shape] = [draw_call(rand, cursors, shape, density, ending) for _ in range(cursors)]
        for cursor, later in zip(row, row[1:] + [None]):
            listed = [place for place in all_places(shape) if among[place[1] % 2 ** min(shape)] == cursor]
            calls[shape][cursor] = (tuple(listed), later)
    return Rule(cursors, calls)


def draw_prices(rand, road):
    """Prices of all changes of a road: of all kinds, small ones, or all the same one."""
    among = rand.choice([range(1, 1000), [1, 2, 3], [1], [999], [1, 999], [5, 7]])
    return turned_about(rand, {change: rand.choice(among) for change in road.changes})


def draw_bans(seed, many, most=7):
    """So many tuples (rand, rule, road, prices) with as many changes at most; most of them need bans."""
    rand = random.Random(seed)
    for _ in range(many):
        shapes = rand.sample([shape for shape in SHAPES if max(shape) < 3], rand.randrange(1, 5))
        cursors = rand.randrange(1, 7)
        sound = rand.random() < 0.9
        rule = draw_sound_rule(rand, shapes, cursors) if sound else draw_rule(rand, shapes, cursors)
        changes = [(shape, other) for shape in shapes for other in shapes if shape != other]
        changes = rand.sample(changes, min(rand.choice([0, 1, 2, 3, 4, 5, 6, 7, 7, 7]), most, len(changes)))
        road = Road(rand.sample(shapes, rand.randrange(1, len(shapes) + 1)), changes)
        yield rand, rule, road, draw_prices(rand, road)


def turned_about(rand, table):
    """The same dict with its keys put in in another order."""
    keys = list(table)
    rand.shuffle(keys)
    return {key: table[key] for key in keys}


def code_for(rand, road):
    """A hash that is drawn from few, so that all of a small table's buckets come up, or from all."""
    return rand.choice([rand.randrange(4), rand.randrange(32)])


class World:
    """The situations of a rule and a road by hand; a hash of None stands for every call."""

    def __init__(self, rule, road):
        shapes = sorted({*road.begin, *[shape for change in road.changes for shape in change]})
        calls, changes = rule.calls, set(road.changes)
        self.rule, self.road = rule, road
        self.states = [(shape, cursor) for shape in shapes for cursor in range(rule.cursors)]
        self.situations = [(shape, moved, cursor) for shape, cursor in self.states for moved in moves(shape)]
        self.call = {situation: calls[situation[0]][situation[2]] for situation in self.situations}
        self.begin = [situation for situation in self.situations if situation[0] in road.begin and situation[2] == 0]
        self.behind = {}
        for one in self.situations:
            self.behind[one] = [two for two in self.situations if two[2] == self.call[one][1]
                                and (two[0] == one[0] or (one[0], two[0]) in changes)]

    def ends(self, situation):
        return self.call[situation][1] is None

    def lists(self, situation, code):
        shape, moved, _ = situation
        table = 1 if moved else 0
        return code is None or (table, code % 2 ** shape[table]) in self.call[situation][0]

    def followed(self, run):
        """The situations of a run, or None if the list of its steps is none."""
        found = []
        for step in run:
            among = self.behind[found[-1]] if found else self.begin
            found += [one for one in among if exact(one[:2]) == exact(step)][:1] or [None]
            if found[-1] is None:
                return None
        return found or None

    def missed(self, code):
        """The first of the shortest runs that miss a hash: the least run to each situation, for each length."""
        rows = {one: [one[:2]] for one in self.begin if not self.lists(one, code)}
        for _ in self.situations:
            whole = sorted([run for one, run in rows.items() if self.ends(one)])
            if whole:
                return whole[0]
            longer = {}
            for one, run in rows.items():
                for two in self.behind[one]:
                    if not self.lists(two, code):
                        longer[two] = min(longer.get(two, run + [two[:2]]), run + [two[:2]])
            rows = longer
        return None

    def concerns(self, code):
        """All states of all calls up to the first one that lists the hash, by as many rounds as there are situations."""
        found = {one: 0 for one in self.begin}
        for _ in self.situations:
            for one in list(found):
                if not self.lists(one, code):
                    found.update({two: 0 for two in self.behind[one]})
        return sorted({(shape, cursor) for shape, _, cursor in found})

    def misses(self, changes):
        """Whether a run that makes some changes of the road alone misses a hash; other situations count as not met."""
        for code in range(32):
            found, rest = set(), list(self.begin)
            while rest:
                one = rest.pop()
                if one not in found and not self.lists(one, code):
                    if self.ends(one):
                        return True
                    found.add(one)
                    rest += [two for two in self.behind[one] if two[0] == one[0] or (one[0], two[0]) in changes]
        return False

    def totals(self, code):
        """All tuples (situation, calls up to it that list the hash), as far as these are not too many."""
        found, rest = set(), [(one, int(self.lists(one, code))) for one in self.begin]
        while rest:
            one, total = rest.pop()
            if (one, total) not in found:
                found.add((one, total))
                if total <= len(self.situations):
                    rest += [(two, total + int(self.lists(two, code))) for two in self.behind[one]]
        return found

    def most(self, code):
        number = max([total for _, total in self.totals(code)])
        return None if number > len(self.situations) else number

    def fewest(self, code):
        return min([total for one, total in self.totals(code) if self.ends(one)], default=None)


def row_by_hand(rule, cursor, other, beside):
    """The first of the shortest rows of shapes that tell two rules that begin so apart: the least rows to all pairs of
    cursors, for each length."""
    calls, others = rule.calls, other.calls
    rows = {(cursor, beside): []}
    for _ in range(rule.cursors * other.cursors):
        apart, longer = [], {}
        for (one, two), row in rows.items():
            for shape in calls:
                (listed, later), (found, following) = calls[shape][one], others[shape][two]
                if listed != found or (later is None) != (following is None):
                    apart.append(row + [shape])
                elif later is not None:
                    pair = (later, following)
                    longer[pair] = min(longer.get(pair, row + [shape]), row + [shape])
        if apart:
            return min(apart)
        rows = longer
    return None


def renumbered(rule, numbers):
    """The rule with its cursors numbered otherwise; numbers[0] must be 0."""
    calls = {}
    for shape, row in rule.calls.items():
        calls[shape] = [None] * rule.cursors
        for cursor, (listed, later) in enumerate(row):
            calls[shape][numbers[cursor]] = (listed, None if later is None else numbers[later])
    return Rule(rule.cursors, calls)


def with_more_cursors(rand, rule, many):
    """The rule with so many cursors more that no call goes to."""
    calls = rule.calls
    for shape in calls:
        calls[shape] += [draw_call(rand, rule.cursors + many, shape, 0.4, 0.3) for _ in range(many)]
    return Rule(rule.cursors + many, calls)


def doubled(rand, rule):
    """The rule with each cursor twice; calls go on with either."""
    many = rule.cursors
    calls = {shape: [(listed, None if later is None else later + many * rand.randrange(2)) for listed, later in row * 2]
             for shape, row in rule.calls.items()}
    return Rule(many * 2, calls)


def shuffled_cursors(rand, many):
    """The numbers of as many cursors in another order, with 0 in its place."""
    return [0] + rand.sample(range(1, many), many - 1)


def integer_by_hand(thing, low, high):
    return thing.__class__ is int and low <= thing <= high


def name_by_hand(thing):
    return isinstance(thing, str) and re.fullmatch("[a-z]{1,8}", thing) is not None


def known_by_hand(thing, table):
    return name_by_hand(thing) and thing in table


def outcome(function, *args):
    """What a call returns, as a text, or the error that it raises, with the line or the course of the error."""
    try:
        return exact(function(*args))
    except errors.CursorError as error:
        return exact([error.__class__.__name__, vars(error)])


class TableModel:
    """A table by hand: a list of the keys of each bucket of each table."""

    def __init__(self, width):
        if not integer_by_hand(width, 0, 5):
            raise errors.InvalidWidth("")
        self.tables, self.moved = [[{} for _ in range(2 ** width)]], 0

    @property
    def shape(self):
        return tuple([len(buckets).bit_length() - 1 for buckets in self.tables])

    @property
    def spots(self):
        """From names to tuples (table, hash)."""
        return {name: (table, code) for table, buckets in enumerate(self.tables) for keys in buckets
                for name, code in keys.items()}

    @property
    def names(self):
        return sorted(self.spots)

    def lay(self, table, name, code):
        buckets = self.tables[table]
        buckets[code % len(buckets)][name] = code

    def put(self, name, code):
        if not name_by_hand(name):
            raise errors.InvalidName("")
        if name in self.spots:
            raise errors.DuplicateName("")
        if not integer_by_hand(code, 0, 31):
            raise errors.InvalidHash("")
        self.lay(-1, name, code)

    def drop(self, name):
        self.code_of(name)
        for buckets in self.tables:
            for keys in buckets:
                keys.pop(name, None)

    def start(self, width):
        if not integer_by_hand(width, 0, 5) or self.shape == (width,):
            raise errors.InvalidWidth("")
        if len(self.tables) == 2:
            raise errors.Moving("")
        self.tables.append([{} for _ in range(2 ** width)])

    def move(self, count):
        if len(self.tables) == 1 or not integer_by_hand(count, 1, len(self.tables[0]) - self.moved):
            raise errors.InvalidNumber("")
        for _ in range(count):
            for name, code in self.tables[0][self.moved].items():
                self.lay(1, name, code)
            self.tables[0][self.moved] = {}
            self.moved += 1
        if self.moved == len(self.tables[0]):
            self.tables, self.moved = self.tables[1:], 0

    def code_of(self, name):
        if not known_by_hand(name, self.spots):
            raise errors.UnknownName("")
        return self.spots[name][1]

    def is_moved(self, name):
        self.code_of(name)
        return self.spots[name][0] == 1

    def at(self, place):
        if not is_one_of(place, all_places(self.shape)):
            raise errors.InvalidPlace("")
        return sorted(self.tables[place[0]][place[1]])

    def copy(self):
        return copy.deepcopy(self)


class DeskModel:
    """A desk by hand: all states ahead are kept as copies."""

    def __init__(self, rule, width):
        self.rule, self.table, self.listings, self.earlier = rule, TableModel(width), {}, []
        if (width,) not in rule.shapes:
            raise errors.UnknownShape("")

    @property
    def shape(self):
        return self.table.shape

    @property
    def names(self):
        return self.table.names

    @property
    def moved(self):
        return self.table.moved

    def __len__(self):
        return len(self.earlier)

    def change(self, edit):
        """Make a call on the table, if it raises no error."""
        table = self.table.copy()
        edit(table)
        if not {(table.shape[-1],), table.shape} <= set(self.rule.shapes):
            raise errors.UnknownShape("")
        self.keep()
        self.table = table

    def keep(self):
        self.earlier.append(copy.deepcopy((self.table, self.listings)))

    def put(self, name, code):
        self.change(lambda table: table.put(name, code))

    def drop(self, name):
        self.change(lambda table: table.drop(name))
        for listing in self.listings.values():
            listing["runs"].pop(name, None)

    def start(self, width):
        self.change(lambda table: table.start(width))

    def move(self, count):
        self.change(lambda table: table.move(count))

    def enter(self, label):
        if not name_by_hand(label):
            raise errors.InvalidName("")
        if label in self.listings:
            raise errors.DuplicateName("")
        self.keep()
        self.listings[label] = {"cursor": 0, "told": [], "runs": {name: [] for name in self.names}}

    def listing(self, label):
        if not known_by_hand(label, self.listings):
            raise errors.UnknownLabel("")
        return self.listings[label]

    def step(self, label):
        if self.is_over(label):
            raise errors.Over("")
        self.keep()
        listing = self.listings[label]
        places, listing["cursor"] = self.rule.calls[self.shape][listing["cursor"]]
        names = sorted([name for place in places for name in self.table.at(place)])
        listing["told"] += names
        for name, run in listing["runs"].items():
            run.append((self.shape, self.table.is_moved(name)))
        return names

    def undo(self):
        if not self.earlier:
            raise errors.NothingToUndo("")
        self.table, self.listings = self.earlier.pop()

    def told(self, label):
        told = self.listing(label)["told"]
        return {name: told.count(name) for name in sorted(set(told))}

    def stayed(self, label):
        return sorted(self.listing(label)["runs"])

    def run_of(self, label, name):
        runs = self.listing(label)["runs"]
        if not known_by_hand(name, runs):
            raise errors.UnknownName("")
        return runs[name]

    def is_over(self, label):
        return self.listing(label)["cursor"] is None

    def copy(self):
        return copy.deepcopy(self)


def table_shown(table):
    """All that a table shows, as a text."""
    keys = [[table.code_of(name), table.is_moved(name)] for name in table.names]
    return exact([table.shape, table.names, table.moved, keys, [table.at(place) for place in all_places(table.shape)]])


def desk_shown(desk, labels):
    """All that a desk shows of its table and of some labels, as a text."""
    rows = [[outcome(ask, label) for ask in (desk.told, desk.stayed, desk.is_over)] for label in labels]
    runs = [[outcome(desk.run_of, label, name) for name in desk.names] for label in labels]
    return exact([desk.shape, desk.names, desk.moved, len(desk), rows, runs])


ITEMS = {"create": 3, "deposit": 3, "withdraw": 2, "resize": 2, "carry": 2, "enlist": 2, "advance": 2, "finish": 2,
         "discard": 1, "mark": 1, "back": 1}


class BoardModel:
    """A board by hand."""

    def __init__(self):
        self.desks, self.marks, self.log = {}, {}, []

    @property
    def names(self):
        return sorted(self.desks)

    def desk(self, name):
        if not known_by_hand(name, self.desks):
            raise errors.UnknownName("")
        return self.desks[name]

    def run(self, command, *args):
        """Execute a command with its two entries."""
        self.log.append(command)
        try:
            result = getattr(self, f"do_{command}")(*args)
        except errors.CursorError:
            self.log.append("failed")
            raise
        self.log.append("done")
        return result

    def do_create(self, name, text, width):
        if not name_by_hand(name):
            raise errors.InvalidName("")
        if name in self.desks:
            raise errors.DuplicateName("")
        self.desks[name] = DeskModel(parse_rule(text), width)

    def do_deposit(self, name, key, code):
        self.desk(name).put(key, code)

    def do_withdraw(self, name, key):
        self.desk(name).drop(key)

    def do_resize(self, name, width):
        self.desk(name).start(width)

    def do_carry(self, name, count):
        self.desk(name).move(count)

    def do_enlist(self, name, label):
        self.desk(name).enter(label)

    def do_advance(self, name, label):
        return self.desk(name).step(label)

    def do_finish(self, name, label):
        desk = self.desk(name)
        if desk.is_over(label):
            raise errors.Over("")
        cursors = [desk.listings[label]["cursor"]]
        while cursors[-1] is not None:
            cursors.append(desk.rule.calls[desk.shape][cursors[-1]][1])
            if cursors[-1] in cursors[:-1]:
                raise errors.Endless("")
        return [desk.step(label) for _ in cursors[1:]]

    def do_discard(self, name):
        self.desk(name)
        del self.desks[name]

    def do_mark(self, label):
        if not name_by_hand(label):
            raise errors.InvalidName("")
        if label in self.marks:
            raise errors.DuplicateName("")
        self.marks[label] = copy.deepcopy(self.desks)

    def do_back(self, label):
        if not known_by_hand(label, self.marks):
            raise errors.UnknownMark("")
        self.desks = copy.deepcopy(self.marks[label])

    def do_batch(self, commands):
        if not isinstance(commands, list):
            raise errors.InvalidCommand("")
        before = copy.deepcopy((self.desks, self.marks))
        try:
            return [self.do_item(item) for item in commands]
        except errors.CursorError:
            self.desks, self.marks = before
            raise

    def do_item(self, item):
        if not isinstance(item, tuple) or not item or exact(item[0]) not in {exact(name) for name in ITEMS}:
            raise errors.InvalidCommand("")
        if len(item) != 1 + ITEMS[item[0]]:
            raise errors.InvalidCommand("")
        return self.run(*item)

    def shape_of(self, name):
        return self.desk(name).shape

    def keys_of(self, name):
        return self.desk(name).names

    def told_by(self, name, label):
        return self.desk(name).told(label)

    def stayed_by(self, name, label):
        return self.desk(name).stayed(label)

    def copy(self):
        other = copy.deepcopy(self)
        other.log = []
        return other


def board_shown(board, labels, log=True):
    """All that a board shows of some labels, as a text, with or without its log."""
    desks = []
    for name in board.names:
        told = [[outcome(ask, name, label) for ask in (board.told_by, board.stayed_by)] for label in labels]
        desks.append([board.shape_of(name), board.keys_of(name), told])
    return exact([board.names, desks, board.log if log else None])
