"""The names of the interface: where they are defined, and the names of their parameters."""

import importlib
import inspect
import pathlib
import unittest

import loosecursors

FUNCTIONS = {
    "bits": {
        "is_width": ["thing"], "is_hash": ["thing"], "bucket": ["code", "width"], "turned": ["number", "width"],
        "within": ["number", "small", "large"],
    },
    "shapes": {
        "is_shape": ["thing"], "places": ["shape"], "is_place": ["shape", "thing"],
        "place_of": ["shape", "code", "moved"],
    },
    "roads": {"full_road": ["shapes"]},
    "texts": {"format_rule": ["rule"], "format_road": ["road"], "parse_rule": ["text"], "parse_road": ["text"]},
    "runs": {
        "is_run": ["rule", "road", "thing"], "cursors_of": ["rule", "road", "run"],
        "lists_of": ["rule", "road", "run"], "is_whole": ["rule", "road", "run"],
        "listed": ["rule", "road", "run", "code"],
    },
    "missed": {
        "missed_run": ["rule", "road", "code"], "closed_set": ["rule", "road", "code"],
        "is_closed": ["rule", "road", "code", "thing"], "concerns": ["rule", "road", "code"],
    },
    "ends": {
        "longest": ["rule", "road"], "heights": ["rule", "road", "number"],
        "is_heights": ["rule", "road", "number", "thing"], "loop": ["rule", "road"],
        "is_loop": ["rule", "road", "thing"],
    },
    "times": {
        "most_times": ["rule", "road", "code"], "times_heights": ["rule", "road", "code", "number"],
        "is_times_heights": ["rule", "road", "code", "number", "thing"], "times_loop": ["rule", "road", "code"],
        "is_times_loop": ["rule", "road", "code", "thing"],
    },
    "least": {
        "fewest_calls": ["rule", "road"], "fewest_times": ["rule", "road", "code"],
        "depths": ["rule", "road", "number"], "is_depths": ["rule", "road", "number", "thing"],
    },
    "hashes": {"alike_hashes": ["road"], "verdicts": ["rule", "road"], "first_missed": ["rule", "road"]},
    "same": {
        "apart": ["rule", "other"], "do_the_same": ["rule", "other"], "pairs": ["rule", "other"],
        "is_together": ["rule", "other", "thing"],
    },
    "smallest": {"smallest": ["rule"], "told_apart": ["rule", "cursor", "other"], "groups": ["rule"]},
    "makers": {"counting": ["shapes"], "counting_down": ["shapes"], "reversed_bits": ["shapes"]},
    "formulas": {
        "spot": ["code", "top"], "span": ["shape", "cursor", "top"], "full_calls": ["shapes"],
        "full_times": ["shapes", "code"],
    },
    "bans": {"cheapest_bans": ["rule", "road", "prices"], "is_ban": ["rule", "road", "thing"]},
    "papers": {
        "paper": ["rule", "road", "prices", "number"], "is_paper": ["rule", "road", "prices", "number", "thing"],
    },
}
CLASSES = {
    ("rules", "Rule"): {
        "__init__": ["self", "cursors", "calls"], "call": ["self", "shape", "cursor"],
        "with_call": ["self", "shape", "cursor", "call"], "with_shapes": ["self", "shapes"],
    },
    ("roads", "Road"): {
        "__init__": ["self", "begin", "changes"], "behind": ["self", "shape"], "without": ["self", "changes"],
        "with_change": ["self", "change"],
    },
    ("studies", "Study"): {
        "__init__": ["self", "rule", "road"], "missed": ["self", "code"],
        "set_call": ["self", "shape", "cursor", "call"], "allow": ["self", "change"], "forbid": ["self", "change"],
        "undo": ["self"], "copy": ["self"], "__len__": ["self"],
    },
    ("tables", "Table"): {
        "__init__": ["self", "width"], "put": ["self", "name", "code"], "drop": ["self", "name"],
        "start": ["self", "width"], "move": ["self", "count"], "code_of": ["self", "name"], "is_moved": ["self", "name"],
        "at": ["self", "place"], "copy": ["self"],
    },
    ("desks", "Desk"): {
        "__init__": ["self", "rule", "width"], "put": ["self", "name", "code"], "drop": ["self", "name"],
        "start": ["self", "width"], "move": ["self", "count"], "enter": ["self", "label"], "step": ["self", "label"],
        "undo": ["self"], "told": ["self", "label"], "stayed": ["self", "label"], "run_of": ["self", "label", "name"],
        "is_over": ["self", "label"], "copy": ["self"], "__len__": ["self"],
    },
    ("board", "Board"): {
        "__init__": ["self"], "create": ["self", "name", "text", "width"], "deposit": ["self", "name", "key", "code"],
        "withdraw": ["self", "name", "key"], "resize": ["self", "name", "width"], "carry": ["self", "name", "count"],
        "enlist": ["self", "name", "label"], "advance": ["self", "name", "label"], "finish": ["self", "name", "label"],
        "discard": ["self", "name"], "mark": ["self", "label"], "back": ["self", "label"], "batch": ["self", "commands"],
        "shape_of": ["self", "name"], "keys_of": ["self", "name"], "told_by": ["self", "name", "label"],
        "stayed_by": ["self", "name", "label"], "copy": ["self"],
    },
    ("shell", "Shell"): {"__init__": ["self"], "run": ["self", "line"]},
}
PROPERTIES = {
    ("rules", "Rule"): ["cursors", "shapes", "calls"], ("roads", "Road"): ["begin", "changes", "shapes"],
    ("studies", "Study"): ["rule", "road", "known", "searches"], ("tables", "Table"): ["shape", "names", "moved"],
    ("desks", "Desk"): ["rule", "shape", "names", "moved"], ("board", "Board"): ["names", "log"],
}


def module(name):
    return importlib.import_module(f"loosecursors.{name}")


class TestInterface(unittest.TestCase):

    def test_functions(self):
        for name, functions in FUNCTIONS.items():
            for function, parameters in functions.items():
                with self.subTest(function):
                    found = getattr(module(name), function)
                    self.assertTrue(inspect.isfunction(found))
                    self.assertEqual(found.__module__, f"loosecursors.{name}")
                    self.assertEqual(list(inspect.signature(found).parameters), parameters)

    def test_methods(self):
        for (name, owner), methods in CLASSES.items():
            found = getattr(module(name), owner)
            self.assertEqual(found.__module__, f"loosecursors.{name}")
            for method, parameters in methods.items():
                with self.subTest(method):
                    self.assertEqual(list(inspect.signature(vars(found)[method]).parameters), parameters)

    def test_equality_is_defined_in_the_class_itself(self):
        for name, owner in [("rules", "Rule"), ("roads", "Road")]:
            self.assertIn("__eq__", vars(getattr(module(name), owner)))

    def test_properties(self):
        for (name, owner), properties in PROPERTIES.items():
            found = vars(getattr(module(name), owner))
            for word in properties:
                with self.subTest(f"{owner}.{word}"):
                    self.assertIsInstance(found[word], property)
                    self.assertIsNone(found[word].fset)

    def test_no_parameter_has_a_default_value(self):
        for name, functions in FUNCTIONS.items():
            for function in functions:
                self.assertIsNone(getattr(module(name), function).__defaults__)
        for (name, owner), methods in CLASSES.items():
            for method in methods:
                self.assertIsNone(vars(getattr(module(name), owner))[method].__defaults__)


class TestFiles(unittest.TestCase):
    """What of the language's rules can be counted."""

    def files(self):
        return sorted(pathlib.Path(loosecursors.__file__).parent.rglob("*.py"))

    def test_sizes(self):
        for path in self.files():
            lines = path.read_text(encoding="utf-8").split("\n")
            with self.subTest(path.name):
                self.assertLessEqual(len(lines), 400)
                self.assertLessEqual(max([len(line) for line in lines]), 120)
                self.assertNotIn("\t", "".join(lines))

    def test_imports_come_from_the_package_and_the_named_parts_of_the_library(self):
        words = ("loosecursors.", "heapq ", "math ", "itertools ", "collections ", "__future__ ")
        for path in self.files():
            for line in path.read_text(encoding="utf-8").split("\n"):
                if line.startswith(("import ", "from ")) and path.name != "__main__.py":
                    with self.subTest(f"{path.name}: {line}"):
                        self.assertTrue(line.startswith(tuple([f"from {word}" for word in words])))


if __name__ == "__main__":
    unittest.main()
