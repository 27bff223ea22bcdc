"""The facts about all rules, roads and desks, through all modules."""

import random
import unittest

from loosecursors.bans import cheapest_bans, is_ban
from loosecursors.board import Board
from loosecursors.desks import Desk
from loosecursors.ends import heights, is_heights, is_loop, longest, loop
from loosecursors.errors import Always
from loosecursors.formulas import full_calls, full_times
from loosecursors.hashes import first_missed, verdicts
from loosecursors.least import depths, fewest_calls, fewest_times, is_depths
from loosecursors.makers import counting, counting_down, reversed_bits
from loosecursors.missed import closed_set, concerns, is_closed, missed_run
from loosecursors.papers import is_paper, paper
from loosecursors.roads import Road, full_road
from loosecursors.runs import is_run, is_whole, listed
from loosecursors.same import do_the_same
from loosecursors.shell import Shell
from loosecursors.smallest import smallest
from loosecursors.studies import Study
from loosecursors.texts import format_road, format_rule, parse_road, parse_rule
from loosecursors.times import is_times_heights, is_times_loop, most_times, times_heights, times_loop
from tests.helpers import (SHAPES, ExactCase, code_for, doubled, draw, draw_bans, draw_call, draw_road, draw_rule, exact,
                           outcome, renumbered, shuffled_cursors, with_more_cursors)

SMALL = [shape for shape in SHAPES if max(shape) < 3]
TABLES = [(width,) for width in range(6)]
KEYS = [chr(97 + number) for number in range(12)]


class TestRunsAndPapers(ExactCase):

    def test_a_run_that_misses_the_hash_or_a_closed_set(self):
        for rand, rule, road in draw(4101, 300):
            code = code_for(rand, road)
            run, rows = missed_run(rule, road, code), closed_set(rule, road, code)
            self.assertIs(run is None, rows is not None)
            if run is None:
                self.assertIs(is_closed(rule, road, code, rows), True)
            else:
                self.assertIs(is_run(rule, road, run) and is_whole(rule, road, run), True)
                self.assertNotIn(True, listed(rule, road, run, code))

    def test_longest_runs_or_a_loop(self):
        for rand, rule, road in draw(4102, 300):
            found = longest(rule, road)
            self.assertIs(found is None, loop(rule, road) is not None)
            if found is None:
                self.assertIs(is_loop(rule, road, loop(rule, road)), True)
            else:
                self.assertIs(is_heights(rule, road, found[0], heights(rule, road, found[0])), True)
                self.assertIsNone(heights(rule, road, found[0] - 1))

    def test_a_greatest_number_of_times_or_a_loop(self):
        for rand, rule, road in draw(4103, 300):
            code = code_for(rand, road)
            found = most_times(rule, road, code)
            self.assertIs(found is None, times_loop(rule, road, code) is not None)
            if found is None:
                self.assertIs(is_times_loop(rule, road, code, times_loop(rule, road, code)), True)
            else:
                self.same(listed(rule, road, found[1], code).count(True), found[0])
                tables = times_heights(rule, road, code, found[0])
                self.assertIs(is_times_heights(rule, road, code, found[0], tables), True)

    def test_least_numbers(self):
        for rand, rule, road in draw(4104, 200):
            found = fewest_calls(rule, road)
            if found is not None:
                self.assertIs(is_depths(rule, road, found[0], depths(rule, road, found[0])), True)
                self.assertIsNone(depths(rule, road, found[0] + 1))
                code = code_for(rand, road)
                self.assertIs(fewest_times(rule, road, code)[0] == 0, missed_run(rule, road, code) is not None)


class TestRules(ExactCase):

    def test_rules_that_do_the_same_have_one_smallest_rule(self):
        for rand, rule, road in draw(4105, 150):
            least = smallest(rule)
            self.assertIs(do_the_same(rule, least), True)
            for other in (doubled(rand, rule), with_more_cursors(rand, rule, 2),
                          renumbered(rule, shuffled_cursors(rand, rule.cursors))):
                self.assertIs(do_the_same(rule, other), True)
                self.assertIs(smallest(other) == least, True)
            for code in range(4):
                self.same(missed_run(least, road, code), missed_run(rule, road, code))
                found, wanted = most_times(least, road, code), most_times(rule, road, code)
                self.same(found and found[0], wanted and wanted[0])

    def test_texts_hold_all_that_is_said_of_rules_and_roads(self):
        for rand, rule, road in draw(4106, 60):
            again, way = parse_rule(format_rule(rule)), parse_road(format_road(road))
            self.same([verdicts(again, way), first_missed(again, way)], [verdicts(rule, road), first_missed(rule, road)])

    def test_reversed_bits(self):
        rand = random.Random(4107)
        for _ in range(40):
            shapes = rand.sample(SHAPES, rand.randrange(1, 6))
            rule, road = reversed_bits(shapes), draw_road(rand, shapes)
            self.assertIsNone(first_missed(rule, road))
            self.assertIsNone(loop(rule, road))
            self.same(cheapest_bans(rule, road.without(road.changes[7:]), {change: 1 for change in road.changes[:7]}), (0, []))
            full = full_road(shapes)
            low, high = full_calls(shapes)
            self.same([fewest_calls(rule, full)[0], longest(rule, full)[0]], [low, high])
            self.assertLessEqual(longest(rule, road)[0], high)
            self.assertGreaterEqual(fewest_calls(rule, road)[0], low)
            for code in rand.sample(range(32), 3):
                self.same(most_times(rule, full, code)[0], full_times(shapes, code))
                self.assertLessEqual(most_times(rule, road, code)[0], full_times(shapes, code))

    def test_counting_if_tables_grow_and_counting_down_if_they_shrink(self):
        rand = random.Random(4108)
        for _ in range(60):
            shapes = rand.sample(TABLES, rand.randrange(1, 6))
            full = full_road(shapes)
            for maker, changes in [(counting, [change for change in full.changes if change[0] < change[1]]),
                                   (counting_down, [change for change in full.changes if change[0] > change[1]])]:
                road = Road(rand.sample(shapes, rand.randrange(1, len(shapes) + 1)), changes)
                self.assertIsNone(first_missed(maker(shapes), road))


class TestEdits(ExactCase):

    def test_forbidden_changes(self):
        for rand, rule, road in draw(4109, 200):
            banned = [change for change in road.changes if rand.random() < 0.5]
            less, code = road.without(banned), code_for(rand, road)
            rows = closed_set(rule, road, code)
            if rows is not None:
                self.assertIs(is_closed(rule, less, code, [row for row in rows if row[0] in less.shapes]), True)
            for ask in (lambda way: longest(rule, way), lambda way: most_times(rule, way, code)):
                if ask(road) is not None:
                    self.assertLessEqual(ask(less)[0], ask(road)[0])
            for ask in (lambda way: fewest_calls(rule, way), lambda way: fewest_times(rule, way, code)):
                if ask(less) is not None:
                    self.assertGreaterEqual(ask(less)[0], ask(road)[0])

    def test_what_is_no_concern_of_a_hash(self):
        met = 0
        for rand, rule, road in draw(4110, 300):
            code = code_for(rand, road)
            rows, run = concerns(rule, road, code), missed_run(rule, road, code)
            study = Study(rule, road)
            study.missed(code)
            shape, cursor = rand.choice(rule.shapes), rand.randrange(rule.cursors)
            study.set_call(shape, cursor, draw_call(rand, rule.cursors, shape, 0.5, 0.3))
            if (shape, cursor) not in rows:
                met += 1
                self.same([study.known, missed_run(study.rule, road, code), concerns(study.rule, road, code)],
                          [[code], run, rows])
            study.undo()
            for change in full_road(rule.shapes).changes:
                edit = study.forbid if change in road.changes else study.allow
                edit(change)
                if change[0] not in [state[0] for state in rows]:
                    met += 1
                    self.same([study.known, missed_run(rule, study.road, code), concerns(rule, study.road, code)],
                              [[code], run, rows])
                study.undo()
        self.assertGreater(met, 300)

    def test_bans_and_papers_about_them(self):
        for rand, rule, road, prices in draw_bans(4111, 120):
            try:
                price, changes = cheapest_bans(rule, road, prices)
            except Always as error:
                self.assertIs(is_run(rule, road.without(road.changes), error.course), True)
                self.assertIs(is_paper(rule, road, prices, 5000, paper(rule, road, prices, 5000)), True)
                continue
            self.assertIs(is_ban(rule, road, changes), True)
            self.assertIsNone(first_missed(rule, road.without(changes)))
            self.assertIs(is_paper(rule, road, prices, price, paper(rule, road, prices, price)), True)
            self.assertIsNone(paper(rule, road, prices, price + 1))


class TestDesks(ExactCase):

    def play(self, rand, rule, width):
        """A desk with a listing that was begun with some keys, behind drawn calls; the codes of its keys."""
        desk, codes = Desk(rule, width), {name: rand.randrange(32) for name in KEYS}
        for name, code in codes.items():
            desk.put(name, code)
        desk.enter("one")
        for _ in range(rand.randrange(50)):
            name, *args = rand.choice([("step", "one"), ("step", "one"), ("start", rand.randrange(3)),
                                       ("move", rand.randrange(1, 3)), ("drop", rand.choice(KEYS))])
            outcome(getattr(desk, name), *args)
        return desk, codes

    def check(self, rule, desk, codes):
        road, told = full_road(rule.shapes), desk.told("one")
        for name in desk.stayed("one"):
            run = desk.run_of("one", name)
            if run:
                self.assertIs(is_run(rule, road, run), True)
                self.same(listed(rule, road, run, codes[name]).count(True), told.get(name, 0))
                self.assertIs(is_whole(rule, road, run), desk.is_over("one"))
            if desk.is_over("one") and missed_run(rule, road, codes[name]) is None:
                self.assertGreater(told.get(name, 0), 0)

    def test_a_key_that_stays_is_told_as_often_as_its_run_lists_its_hash(self):
        for seed in range(60):
            rand = random.Random(4200 + seed)
            for rule in (reversed_bits(SMALL), counting(SMALL), counting_down(SMALL), draw_rule(rand, SMALL, 4)):
                desk, codes = self.play(rand, rule, rand.randrange(3))
                self.check(rule, desk, codes)

    def test_with_reversed_bits_every_key_that_stayed_has_been_told(self):
        over = 0
        for seed in range(80):
            rand = random.Random(4300 + seed)
            desk, codes = self.play(rand, reversed_bits(SMALL), rand.randrange(3))
            if desk.is_over("one"):
                over += 1
                self.same([name for name in desk.stayed("one") if name not in desk.told("one")], [])
                for name in desk.stayed("one"):
                    self.assertLessEqual(desk.told("one")[name], full_times(SMALL, codes[name]))
                    self.assertLessEqual(len(desk.run_of("one", name)), full_calls(SMALL)[1])
        self.assertGreater(over, 20)

    def test_the_same_desk_on_a_board_and_in_a_shell(self):
        text = format_rule(reversed_bits(SMALL))
        for seed in range(20):
            rand = random.Random(4400 + seed)
            desk, board, shell = Desk(parse_rule(text), 1), Board(), Shell()
            board.create("main", text, 1)
            word = text.replace("\n", "/").replace(" ", ",")
            shell.run(f"create main 1 {word}")
            for _ in range(60):
                own, command, *args = rand.choice([
                    ("put", "deposit", rand.choice(KEYS), rand.randrange(32)), ("drop", "withdraw", rand.choice(KEYS)),
                    ("start", "resize", rand.randrange(3)), ("move", "carry", rand.randrange(1, 3)),
                    ("enter", "enlist", rand.choice(["one", "two"])), ("step", "advance", rand.choice(["one", "two"]))])
                found = outcome(getattr(desk, own), *args)
                self.same(outcome(getattr(board, command), "main", *args), found)
                line = outcome(shell.run, " ".join([command, "main"] + [str(item) for item in args]))
                self.assertIs(line == found, "', {" in found)
                self.same([board.shape_of("main"), board.keys_of("main")], [desk.shape, desk.names])
                for label in ("one", "two"):
                    told = outcome(desk.told, label)
                    self.same(outcome(board.told_by, "main", label), told)
                    self.same(outcome(board.stayed_by, "main", label), outcome(desk.stayed, label))
                    if told.startswith("{"):
                        words = [f"{name}:{times}" for name, times in desk.told(label).items()]
                        self.same(shell.run(f"told main {label}"), " ".join(words) or "none")
                self.same(shell.run("keys main"), " ".join(desk.names) or "none")


class TestAskingChangesNothing(ExactCase):

    def test_a_rule_and_a_road_through_all_modules(self):
        for rand, rule, road, prices in draw_bans(4112, 25, 4):
            before = exact((rule.cursors, rule.calls, road.begin, road.changes, prices))
            for _ in range(2):
                for code in (0, 5):
                    for ask in (missed_run, closed_set, concerns, most_times, fewest_times, times_loop):
                        ask(rule, road, code)
                for ask in (longest, loop, fewest_calls, verdicts, first_missed):
                    ask(rule, road)
                outcome(cheapest_bans, rule, road, prices)
                paper(rule, road, prices, 5)
                Study(rule, road).missed(3)
                smallest(rule)
                self.assertEqual(exact((rule.cursors, rule.calls, road.begin, road.changes, prices)), before)


if __name__ == "__main__":
    unittest.main()
