"""Studies: edits of a rule and a road, and which answers stay known, against a model."""

import copy
import random
import unittest

from loosecursors.bits import is_hash
from loosecursors.errors import (InvalidCall, InvalidHash, InvalidRoad, Mismatch, NothingToUndo, UnknownChange,
                                 UnknownCursor, UnknownShape)
from loosecursors.makers import counting, reversed_bits
from loosecursors.missed import concerns, missed_run
from loosecursors.roads import Road, full_road
from loosecursors.rules import Rule
from loosecursors.studies import Study
from loosecursors.texts import parse_rule
from tests.helpers import (SHAPES, WRONG_HASHES, ExactCase, World, draw_call, draw_road, draw_rule, exact, is_one_of,
                           odd_things)

ZERO, ONE, TWO, UP, DOWN = (0,), (1,), (2,), (0, 1), (1, 0)
SMALL = [shape for shape in SHAPES if max(shape) < 3]


def small_rule():
    return parse_rule("cursors 2\nshape 0\ncall 0.0 end\ncall end\nshape 1\ncall 0.0 next 1\ncall 0.1 end")


def small_study():
    return Study(small_rule(), full_road([ZERO, ONE]))


class Model:
    """A study by hand: all states ahead are kept as copies, concerns are reckoned ahead of each edit."""

    def __init__(self, rule, road):
        self.cursors, self.calls = rule.cursors, copy.deepcopy(rule.calls)
        self.begin, self.changes = list(road.begin), list(road.changes)
        self.known, self.searches, self.earlier = [], 0, []

    def world(self):
        return World(Rule(self.cursors, self.calls), Road(self.begin, self.changes))

    def missed(self, code):
        if code not in self.known:
            self.known.append(code)
            self.searches += 1
        return self.world().missed(code)

    def keep(self, is_concern):
        """Remember the state, and forget the hashes of which a state is a concern of that kind."""
        self.earlier.append(copy.deepcopy((self.calls, self.changes, self.known)))
        world = self.world()
        self.known = [code for code in self.known if not any([is_concern(state) for state in world.concerns(code)])]

    def set_call(self, shape, cursor, call):
        self.keep(lambda state: state == (shape, cursor))
        self.calls[shape][cursor] = call

    def allow(self, change):
        self.keep(lambda state: state[0] == change[0])
        self.changes.append(change)

    def forbid(self, change):
        self.keep(lambda state: state[0] == change[0])
        self.changes.remove(change)

    def undo(self):
        self.calls, self.changes, self.known = self.earlier.pop()

    def copy(self):
        return copy.deepcopy(self)

    def shown(self):
        return exact([sorted(self.calls.items()), sorted(self.begin), sorted(self.changes), sorted(self.known),
                      self.searches, len(self.earlier)])


def shown(study):
    """All that a study shows without being asked for an answer."""
    return exact([sorted(study.rule.calls.items()), study.road.begin, study.road.changes, study.known, study.searches,
                  len(study)])


class TestExamples(ExactCase):

    def test_the_example(self):
        self.example("""
>>> from loosecursors.roads import full_road
>>> from loosecursors.studies import Study
>>> from loosecursors.texts import parse_rule
>>> rule = parse_rule('cursors 2\\nshape 0\\ncall 0.0 end\\ncall end\\nshape 1\\ncall 0.0 next 1\\ncall 0.1 end')
>>> study = Study(rule, full_road([(0,), (1,)]))
>>> [study.missed(2), study.missed(3), study.set_call((0,), 1, (((0, 0),), None)), study.known, study.missed(3), study.searches]
[None, [((1,), False), ((0,), False)], None, [2], None, 3]
""")


class Player:
    """Plays drawn calls on a study and its model."""

    def __init__(self, case, rand, rule, road):
        self.case, self.rand = case, rand
        self.pairs = [(Study(rule, road), Model(rule, road))]
        self.counts = {"missed": 0, "set_call": 0, "allow": 0, "forbid": 0, "undo": 0, "copy": 0, "error": 0, "stays": 0,
                       "goes": 0}

    def play(self):
        at = self.rand.randrange(len(self.pairs))
        study, model = self.pairs[at]
        others = [shown(other) for other, _ in self.pairs]
        self.replaced = None
        name = self.rand.choice(["missed"] * 6 + ["set_call", "same_call", "allow", "forbid", "undo", "copy", "error"])
        known = set(model.known)
        getattr(self, f"play_{name}")(study, model)
        if name in ("set_call", "allow", "forbid"):
            self.counts["stays"] += bool(model.known)
            self.counts["goes"] += bool(known - set(model.known))
        self.case.assertEqual(shown(study), model.shown())
        for index in range(len(others)):
            if index not in (at, self.replaced):
                self.case.assertEqual(shown(self.pairs[index][0]), others[index])

    def play_missed(self, study, model):
        self.counts["missed"] += 1
        code = self.rand.choice([self.rand.randrange(4), self.rand.randrange(32)])
        self.case.same(study.missed(code), model.missed(code))

    def play_set_call(self, study, model):
        self.counts["set_call"] += 1
        shape, cursor = self.rand.choice(sorted(model.calls)), self.rand.randrange(model.cursors)
        call = draw_call(self.rand, model.cursors, shape, 0.5, 0.3)
        self.case.assertIsNone(study.set_call(shape, cursor, call))
        model.set_call(shape, cursor, call)

    def play_same_call(self, study, model):
        shape, cursor = self.rand.choice(sorted(model.calls)), self.rand.randrange(model.cursors)
        self.case.assertIsNone(study.set_call(shape, cursor, model.calls[shape][cursor]))
        model.set_call(shape, cursor, model.calls[shape][cursor])

    def play_allow(self, study, model):
        among = [(one, two) for one in model.calls for two in model.calls if one != two]
        among = [change for change in among if change not in model.changes]
        if among:
            self.counts["allow"] += 1
            change = self.rand.choice(among)
            self.case.assertIsNone(study.allow(change))
            model.allow(change)

    def play_forbid(self, study, model):
        if model.changes:
            self.counts["forbid"] += 1
            change = self.rand.choice(model.changes)
            self.case.assertIsNone(study.forbid(change))
            model.forbid(change)

    def play_undo(self, study, model):
        if model.earlier:
            self.counts["undo"] += 1
            self.case.assertIsNone(study.undo())
            model.undo()
        else:
            self.case.raises(NothingToUndo, study.undo)

    def play_copy(self, study, model):
        self.counts["copy"] += 1
        if len(self.pairs) < 4:
            self.pairs.append((study.copy(), model.copy()))
        else:
            self.replaced = self.rand.randrange(4)
            self.pairs[self.replaced] = (study.copy(), model.copy())
        for other, beside in self.pairs:
            self.case.assertEqual(shown(other), beside.shown())

    def play_error(self, study, model):
        self.counts["error"] += 1
        shape = self.rand.choice(sorted(model.calls))
        unknown = [other for other in SHAPES if other not in model.calls]
        wrong = [(InvalidHash, study.missed, (self.rand.choice(WRONG_HASHES),)),
                 (UnknownShape, study.set_call, (self.rand.choice(unknown), 0, ((), None))),
                 (UnknownCursor, study.set_call, (shape, model.cursors, ((), None))),
                 (InvalidCall, study.set_call, (shape, 0, (((2, 0),), None))),
                 (InvalidRoad, study.allow, ((shape, shape),)),
                 (Mismatch, study.allow, ((shape, self.rand.choice(unknown)),)),
                 (Mismatch, study.allow, ((self.rand.choice(unknown), shape),)),
                 (UnknownChange, study.forbid, ((shape, self.rand.choice(unknown)),))]
        if model.changes:
            wrong.append((InvalidRoad, study.allow, (self.rand.choice(model.changes),)))
        error, method, arguments = self.rand.choice(wrong)
        self.case.raises(error, method, *arguments)

    def undo_all(self):
        for study, model in self.pairs:
            while model.earlier:
                study.undo()
                model.undo()
                self.case.assertEqual(shown(study), model.shown())
            self.case.raises(NothingToUndo, study.undo)
            self.case.assertEqual(shown(study), model.shown())


class TestDrawn(ExactCase):

    def test_long_rows_of_calls(self):
        totals = {}
        for seed in range(40):
            rand = random.Random(2700 + seed)
            shapes = rand.sample(SMALL, rand.randrange(1, 4))
            rule = draw_rule(rand, shapes, rand.randrange(1, 5))
            player = Player(self, rand, rule, draw_road(rand, rule.shapes))
            for _ in range(120):
                player.play()
            player.undo_all()
            for name, number in player.counts.items():
                totals[name] = totals.get(name, 0) + number
        self.assertGreater(min(totals.values()), 100, totals)

    def test_answers_that_stay_known_are_those_of_the_edited_rule_and_road(self):
        stays = 0
        for seed in range(60):
            rand = random.Random(2800 + seed)
            shapes = rand.sample(SMALL, rand.randrange(2, 5))
            rule = draw_rule(rand, shapes, rand.randrange(1, 5))
            study = Study(rule, draw_road(rand, rule.shapes))
            for _ in range(6):
                for code in range(32):
                    study.missed(code)
                shape, cursor = rand.choice(shapes), rand.randrange(rule.cursors)
                lists = {code: concerns(study.rule, study.road, code) for code in range(32)}
                kept = [code for code in range(32) if (shape, cursor) not in lists[code]]
                study.set_call(shape, cursor, draw_call(rand, rule.cursors, shape, 0.5, 0.3))
                self.same(study.known, kept)
                stays += len(kept)
                before = study.searches
                for code in kept:
                    self.same(study.missed(code), missed_run(study.rule, study.road, code))
                    self.same(concerns(study.rule, study.road, code), lists[code])
                self.same(study.searches, before)
        self.assertGreater(stays, 500)


class TestKnown(ExactCase):

    def test_an_answer_is_known_from_then_on(self):
        study = small_study()
        self.same([study.known, study.searches, len(study)], [[], 0, 0])
        self.same(study.missed(3), [(ONE, False), (ZERO, False)])
        self.same([study.known, study.searches, len(study)], [[3], 1, 0])
        self.same(study.missed(3), [(ONE, False), (ZERO, False)])
        self.same([study.known, study.searches], [[3], 1])
        self.assertIsNone(study.missed(0))
        self.same([study.known, study.searches], [[0, 3], 2])
        self.assertIsNone(study.missed(0))
        self.same([study.known, study.searches], [[0, 3], 2])

    def test_hashes_that_are_alike_are_known_on_their_own(self):
        study = small_study()
        study.missed(1)
        study.missed(31)
        self.same([study.known, study.searches], [[1, 31], 2])

    def test_all_hashes_in_any_order(self):
        study = small_study()
        for code in range(31, -1, -1):
            study.missed(code)
        self.same([study.known, study.searches], [list(range(32)), 32])

    def test_a_call_that_is_no_concern(self):
        study = small_study()
        self.same(concerns(study.rule, study.road, 2), [(ZERO, 0), (ONE, 0)])
        for code in (2, 3):
            study.missed(code)
        study.set_call(ONE, 1, ((), None))
        self.same([study.known, len(study)], [[2], 1])
        study.set_call(ONE, 0, (((0, 0),), 1))
        self.same([study.known, len(study)], [[], 2])

    def test_an_edit_that_puts_the_same_call_again_is_one(self):
        study = small_study()
        study.missed(3)
        study.set_call(ZERO, 1, ((), None))
        self.same([study.known, len(study), study.searches], [[], 1, 1])
        study.undo()
        self.same([study.known, len(study), study.searches], [[3], 0, 1])

    def test_a_change_concerns_its_first_shape_alone(self):
        calls = {ZERO: [(((0, 0),), None)], ONE: [(((0, 0), (0, 1)), None)], TWO: [((), None)]}
        study = Study(Rule(1, calls), Road([ZERO], [(ONE, ZERO)]))
        study.missed(5)
        for edit, change in [(study.forbid, (ONE, ZERO)), (study.allow, (ONE, ZERO)), (study.allow, (ONE, TWO)),
                             (study.allow, (TWO, ZERO)), (study.forbid, (TWO, ZERO))]:
            edit(change)
            self.same(study.known, [5])
        study.allow((ZERO, ONE))
        self.same([study.known, len(study)], [[], 6])
        study.undo()
        self.same(study.known, [5])
        study.allow((ZERO, TWO))
        study.missed(5)
        study.missed(6)
        study.forbid((ZERO, TWO))
        self.same([study.known, study.searches], [[], 3])

    def test_a_shape_that_is_none_of_the_road(self):
        rule = counting([ZERO, ONE, TWO])
        study = Study(rule, Road([ONE], []))
        study.missed(1)
        study.set_call(TWO, 0, ((), None))
        study.set_call(ZERO, 0, ((), None))
        study.allow((TWO, ZERO))
        self.same([study.known, len(study)], [[1], 3])
        study.set_call(ONE, 1, ((), None))
        self.same(study.known, [])

    def test_undo_restores_what_was_known_ahead_of_the_edit(self):
        study = small_study()
        study.missed(3)
        study.set_call(ZERO, 1, (((0, 0),), None))
        study.missed(3)
        study.missed(7)
        self.same([study.known, study.searches], [[3, 7], 3])
        study.undo()
        self.same([study.known, study.searches], [[3], 3])
        self.same(study.missed(3), [(ONE, False), (ZERO, False)])
        self.same(study.searches, 3)
        self.same(study.missed(7), [(ONE, False), (ZERO, False)])
        self.same([study.known, study.searches], [[3, 7], 4])

    def test_a_search_ahead_of_an_edit_is_none_behind_it(self):
        study = small_study()
        study.missed(1)
        study.forbid((ONE, ZERO))
        self.same(study.known, [])
        self.assertIsNone(study.missed(1))
        study.missed(2)
        study.undo()
        self.same([study.known, study.searches], [[1], 3])


class TestEdits(ExactCase):

    def test_the_rule_and_the_road(self):
        study = small_study()
        self.assertIs(study.rule == small_rule(), True)
        self.assertIs(study.road == full_road([ZERO, ONE]), True)
        study.set_call(ONE, 0, ((), None))
        self.assertIs(study.rule == small_rule().with_call(ONE, 0, ((), None)), True)
        study.forbid((ZERO, ONE))
        self.assertIs(study.road == Road([ZERO, ONE], [(ONE, ZERO)]), True)
        study.allow((ZERO, ONE))
        self.assertIs(study.road == full_road([ZERO, ONE]), True)
        for wanted in (2, 1, 0):
            self.assertIsNone(study.undo())
            self.same(len(study), wanted)
        self.assertIs(study.rule == small_rule(), True)
        self.assertIs(study.road == full_road([ZERO, ONE]), True)

    def test_edits_return_none(self):
        study = small_study()
        self.same([study.set_call(ZERO, 0, ((), 1)), study.forbid((ZERO, ONE)), study.allow((ZERO, ONE)), study.undo()],
                  [None] * 4)

    def test_forbid_the_last_change(self):
        study = Study(counting([ZERO, ONE]), Road([ONE], [(ONE, ZERO)]))
        self.same(study.missed(1), [(ONE, False), (ZERO, False)])
        study.forbid((ONE, ZERO))
        self.same([study.road.changes, study.road.shapes, study.known], [[], [ONE], []])
        self.assertIsNone(study.missed(1))
        self.raises(UnknownChange, study.forbid, (ONE, ZERO))
        study.allow((ONE, ZERO))
        self.same(study.missed(1), [(ONE, False), (ZERO, False)])
        self.same([len(study), study.searches], [2, 3])

    def test_forbidden_and_allowed_again(self):
        study = small_study()
        for _ in range(5):
            study.forbid((ONE, ZERO))
            study.allow((ONE, ZERO))
        self.same(len(study), 10)
        self.assertIs(study.road == full_road([ZERO, ONE]), True)
        self.raises(InvalidRoad, study.allow, (ONE, ZERO))
        for _ in range(10):
            study.undo()
        self.raises(NothingToUndo, study.undo)

    def test_nothing_to_undo_at_the_beginning(self):
        study = small_study()
        study.missed(3)
        self.raises(NothingToUndo, study.undo)
        self.same([study.known, study.searches, len(study)], [[3], 1, 0])

    def test_several_hundred_edits(self):
        study = small_study()
        for number in range(400):
            study.set_call(ZERO, 1, ((), None) if number & 1 else (((0, 0),), None))
        self.same(len(study), 400)
        self.same(study.missed(3), [(ONE, False), (ZERO, False)])
        for _ in range(400):
            study.undo()
        self.same(len(study), 0)
        self.raises(NothingToUndo, study.undo)


class TestErrors(ExactCase):

    def fails(self, study, error, method, *arguments):
        before = shown(study)
        self.raises(error, getattr(study, method), *arguments)
        self.assertEqual(shown(study), before)

    def studies(self):
        study = small_study()
        study.missed(3)
        study.set_call(ZERO, 0, (((0, 0),), 1))
        study.missed(2)
        return [study, study.copy()]

    def test_mismatch_at_the_beginning(self):
        rule = small_rule()
        for other in (full_road([ZERO, TWO]), Road([ZERO], [(ZERO, UP)]), Road([UP], [])):
            self.raises(Mismatch, Study, rule, other)
        self.raises(Mismatch, Study, rule.with_shapes([ONE]), full_road([ZERO, ONE]))
        Study(rule, Road([ZERO], []))

    def test_missed(self):
        for study in self.studies():
            for thing in WRONG_HASHES + odd_things() + [study.rule, study.road]:
                if not is_hash(thing):
                    self.fails(study, InvalidHash, "missed", thing)

    def test_set_call(self):
        for study in self.studies():
            for thing in odd_things() + [TWO, UP, (True,), (False,), study.rule]:
                if not is_one_of(thing, [ZERO, ONE]):
                    for cursor, call in [(0, ((), None)), (2, None), (None, 0), (True, [])]:
                        self.fails(study, UnknownShape, "set_call", thing, cursor, call)
                if not is_one_of(thing, [0, 1]):
                    for call in [((), None), (((0, 0),), 0), None, ((), 2)]:
                        self.fails(study, UnknownCursor, "set_call", ZERO, thing, call)
                if not is_one_of(thing, [((), None), (((0, 0),), None), (((0, 0),), 0), (((0, 0),), 1)]):
                    self.fails(study, InvalidCall, "set_call", ZERO, 1, thing)
            for call in [((), 2), ((), -1), ((), True), ((), False), (((0, 1),), None), (((1, 0),), None),
                         (((0, 0), (0, 0)), 1), ([(0, 0)], 1), (([0, 0],), 1), (((0, False),), 1), [(), None], ((),)]:
                self.fails(study, InvalidCall, "set_call", ZERO, 0, call)

    def test_allow(self):
        for study in self.studies():
            self.assertIsNone(study.forbid((ZERO, ONE)))
            for thing in odd_things() + [study.road, ZERO, (ZERO,), (ZERO, ZERO), (ONE, ZERO), [ZERO, ONE],
                                         (ZERO, (6,)), ((False,), ONE), (ZERO, (True,)), ((0, 0), ONE), (TWO, TWO)]:
                if not is_one_of(thing, [(ZERO, ONE)]):
                    self.fails(study, InvalidRoad, "allow", thing)
            for change in [(ZERO, TWO), (TWO, ZERO), (UP, DOWN), (UP, ONE), (ONE, (5, 4))]:
                self.fails(study, Mismatch, "allow", change)

    def test_forbid(self):
        for study in self.studies():
            for thing in odd_things() + [study.road, ZERO, (ZERO, ZERO), (ZERO, TWO), (TWO, UP), [ZERO, ONE],
                                         [(ZERO, ONE)], ((False,), ONE), (ZERO, (True,)), (ZERO, (6,))]:
                if not is_one_of(thing, [(ZERO, ONE), (ONE, ZERO)]):
                    self.fails(study, UnknownChange, "forbid", thing)

    def test_a_failed_edit_is_not_undone(self):
        study = small_study()
        study.forbid((ZERO, ONE))
        self.fails(study, Mismatch, "allow", (ZERO, TWO))
        self.fails(study, UnknownChange, "forbid", (ZERO, ONE))
        study.undo()
        self.assertIs(study.road == full_road([ZERO, ONE]), True)
        self.fails(study, NothingToUndo, "undo")


class TestCopies(ExactCase):

    def test_a_copy_is_in_the_same_state(self):
        study = small_study()
        study.missed(3)
        study.forbid((ONE, ZERO))
        study.missed(2)
        other = study.copy()
        self.assertIsInstance(other, Study)
        self.assertEqual(shown(other), shown(study))
        self.same(other.missed(2), None)
        self.same(other.searches, 2)
        other.undo()
        self.same([other.known, other.searches, len(other)], [[3], 2, 0])
        self.raises(NothingToUndo, other.undo)
        self.same([study.known, study.searches, len(study)], [[2], 2, 1])

    def test_copies_of_copies_on_their_own(self):
        first = small_study()
        first.missed(1)
        second = first.copy()
        second.missed(2)
        third = second.copy()
        third.set_call(ZERO, 0, ((), None))
        second.forbid((ONE, ZERO))
        first.missed(5)
        self.same([first.known, second.known, third.known], [[1, 5], [], []])
        self.same([first.searches, second.searches, third.searches], [2, 2, 2])
        self.same([len(first), len(second), len(third)], [0, 1, 1])
        third.undo()
        third.missed(9)
        second.undo()
        self.same([first.known, second.known, third.known], [[1, 5], [1, 2], [1, 2, 9]])

    def test_answers_behind_an_undo_stay_with_their_copy(self):
        study = small_study()
        study.missed(1)
        study.forbid((ONE, ZERO))
        other = study.copy()
        other.undo()
        other.missed(7)
        other.missed(8)
        study.undo()
        self.same([study.known, other.known], [[1], [1, 7, 8]])


class TestArguments(ExactCase):

    def test_returned_lists_are_new(self):
        study = small_study()
        for _ in range(2):
            run = study.missed(3)
            self.same(run, [(ONE, False), (ZERO, False)])
            run.append("spoilt")
            run.reverse()
            known = study.known
            self.same(known, [3])
            known.append(5)
        other = study.copy()
        other.missed(3).clear()
        self.same([study.missed(3), other.missed(3)], [[(ONE, False), (ZERO, False)]] * 2)
        study.rule.calls[ZERO][0] = None
        study.rule.shapes.clear()
        study.road.changes.clear()
        study.road.begin.clear()
        self.assertIs(study.rule == small_rule(), True)
        self.assertIs(study.road == full_road([ZERO, ONE]), True)

    def test_what_is_passed_stays_as_it_was(self):
        rule, road = small_rule(), full_road([ZERO, ONE])
        study = Study(rule, road)
        study.set_call(ZERO, 0, ((), None))
        study.forbid((ONE, ZERO))
        study.missed(3)
        self.assertIs(rule == small_rule(), True)
        self.assertIs(road == full_road([ZERO, ONE]), True)
        self.assertIs(study.rule == rule, False)
        self.assertIs(study.road == road, False)

    def test_a_study_keeps_nothing_that_was_passed(self):
        rule, road = small_rule(), full_road([ZERO, ONE])
        study = Study(rule, road)
        self.assertIsNot(study.rule, rule)
        self.assertIsNot(study.road, road)
        calls, changes = {ONE: [(((0, 0),), 1), (((0, 1),), None)], ZERO: [(((0, 0),), None), ((), None)]}, []
        begin = [ONE, ZERO]
        study = Study(Rule(2, calls), Road(begin, changes))
        calls[ONE][0] = ((), None)
        del calls[ZERO]
        begin.pop()
        changes.append((ONE, ZERO))
        self.assertIs(study.rule == small_rule(), True)
        self.assertIs(study.road == Road([ZERO, ONE], []), True)

    def test_by_name_in_another_order(self):
        study = Study(road=full_road([ZERO, ONE]), rule=small_rule())
        self.same(study.missed(code=3), [(ONE, False), (ZERO, False)])
        self.assertIsNone(study.set_call(call=((), 1), cursor=0, shape=ZERO))
        self.same(study.rule.call(ZERO, 0), ((), 1))
        self.assertIsNone(study.forbid(change=(ONE, ZERO)))
        self.assertIsNone(study.allow(change=(ONE, ZERO)))
        self.raises(UnknownCursor, study.set_call, call=None, cursor=2, shape=ZERO)
        self.raises(Mismatch, Study, road=full_road([TWO]), rule=small_rule())

    def test_two_studies_of_one_rule(self):
        rule, road = small_rule(), full_road([ZERO, ONE])
        first, second = Study(rule, road), Study(rule, road)
        first.forbid((ONE, ZERO))
        first.missed(3)
        self.same([second.known, second.searches, len(second)], [[], 0, 0])
        self.same(second.missed(3), [(ONE, False), (ZERO, False)])


class TestFacts(ExactCase):

    def test_reversed_bits_miss_nothing_until_a_call_is_another_one(self):
        shapes = [ONE, TWO, (3,), (1, 2)]
        study = Study(reversed_bits(shapes), full_road(shapes))
        for code in range(32):
            self.assertIsNone(study.missed(code))
        self.same(study.searches, 32)
        study.set_call(ONE, 0, ((), None))
        self.same([study.missed(0), study.known], [[(ONE, False)], [0]])

    def test_large_studies(self):
        shapes = [(width,) for width in range(6)]
        study = Study(counting(shapes), full_road(shapes))
        for code in range(32):
            study.missed(code)
        for number in range(31, 20, -1):
            study.set_call((5,), number, ((), None))
        self.same(len(study), 11)
        for code in range(32):
            self.same(study.missed(code), missed_run(study.rule, study.road, code))


if __name__ == "__main__":
    unittest.main()
