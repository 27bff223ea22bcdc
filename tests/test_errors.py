"""The errors: their classes, and the attributes of the two that have one."""

import unittest

from loosecursors import errors
from tests.helpers import ExactCase, odd_things

PLAIN = [
    "InvalidWidth", "InvalidHash", "InvalidNumber", "InvalidShape", "InvalidShapes", "InvalidMove", "InvalidRule",
    "InvalidCall", "UnknownShape", "UnknownCursor", "InvalidRoad", "UnknownChange", "Mismatch", "InvalidRun",
    "InvalidPrices", "NothingToUndo", "Moving", "InvalidPlace", "UnknownLabel", "Over", "Endless", "InvalidName",
    "DuplicateName", "UnknownName", "UnknownMark", "InvalidCommand", "InvalidLine",
]
ALL = PLAIN + ["ParseError", "Always"]


def made(name):
    """An error of each class, as it is created."""
    if name == "ParseError":
        return errors.ParseError(3)
    if name == "Always":
        return errors.Always([((0,), False)])
    return getattr(errors, name)("why")


class TestClasses(ExactCase):

    def test_the_base_is_a_value_error(self):
        self.assertTrue(issubclass(errors.CursorError, ValueError))
        self.assertIsInstance(errors.CursorError("why"), ValueError)
        self.assertFalse(issubclass(ValueError, errors.CursorError))

    def test_each_class_is_a_direct_subclass_of_the_base(self):
        for name in ALL:
            with self.subTest(name):
                self.assertEqual(getattr(errors, name).__bases__, (errors.CursorError,))

    def test_each_class_is_defined_here_under_its_name(self):
        for name in ALL + ["CursorError"]:
            with self.subTest(name):
                self.assertEqual(getattr(errors, name).__name__, name)
                self.assertEqual(getattr(errors, name).__module__, "loosecursors.errors")

    def test_all_classes_are_different(self):
        self.assertEqual(len({getattr(errors, name) for name in ALL + ["CursorError"]}), len(ALL) + 1)

    def test_an_error_is_an_instance_of_its_own_class_and_the_bases_alone(self):
        for name in ALL:
            error = made(name)
            with self.subTest(name):
                self.assertIsInstance(error, errors.CursorError)
                self.assertIsInstance(error, ValueError)
                self.assertEqual([other for other in ALL if isinstance(error, getattr(errors, other))], [name])

    def test_an_error_is_no_other_error_of_python(self):
        for name in ALL:
            with self.subTest(name):
                self.assertNotIsInstance(made(name), (LookupError, TypeError, ArithmeticError, UnicodeError))

    def test_each_error_can_be_raised_and_caught_by_the_base(self):
        for name in ALL:
            with self.subTest(name):
                with self.assertRaises(errors.CursorError) as caught:
                    raise made(name)
                self.assertIs(caught.exception.__class__, getattr(errors, name))

    def test_the_base_is_none_of_the_others(self):
        error = errors.CursorError("why")
        self.assertEqual([name for name in ALL if isinstance(error, getattr(errors, name))], [])


class TestAttributes(ExactCase):

    def test_the_line_of_a_parse_error(self):
        for line in (0, 1, 5, 5000, 10 ** 39):
            self.same(errors.ParseError(line).line, line)
            self.same(errors.ParseError(line=line).line, line)

    def test_the_course_of_always(self):
        for course in ([((0,), False)], [((1, 0), False), ((1, 0), True)], []):
            self.same(errors.Always(course).course, course)
            self.same(errors.Always(course=course).course, course)

    def test_a_course_with_the_same_entry_twice(self):
        entry = ((1,), False)
        course = [entry, entry, ((0,), False), entry]
        for error in (errors.Always(course), errors.Always(course=course)):
            self.same(error.course, [((1,), False), ((1,), False), ((0,), False), ((1,), False)])
        self.same(course, [entry, entry, ((0,), False), entry])

    def test_two_errors_have_attributes_of_their_own(self):
        first, second = errors.ParseError(1), errors.ParseError(2)
        self.same([first.line, second.line], [1, 2])
        first, second = errors.Always([((0,), False)]), errors.Always([((1,), False)])
        self.same([first.course, second.course], [[((0,), False)], [((1,), False)]])

    def test_the_attribute_is_there_when_the_error_was_raised(self):
        with self.assertRaises(errors.ParseError) as caught:
            raise errors.ParseError(line=7)
        self.same(caught.exception.line, 7)
        with self.assertRaises(errors.Always) as caught:
            raise errors.Always(course=[((0,), False)] * 2)
        self.same(caught.exception.course, [((0,), False), ((0,), False)])

    def test_the_attributes_hold_any_object(self):
        for thing in odd_things():
            self.same(errors.ParseError(thing).line, thing)
            self.same(errors.Always(thing).course, thing)

    def test_the_plain_errors_take_a_string(self):
        for name in PLAIN + ["CursorError"]:
            for words in ("", "why", "a longer text\nof two lines"):
                error = getattr(errors, name)
                with self.assertRaises(error) as caught:
                    raise error(words)
                self.assertIs(caught.exception.__class__, error)


if __name__ == "__main__":
    unittest.main()
