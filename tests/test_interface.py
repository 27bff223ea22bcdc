"""The names of the interface: where they are defined, and the names of their parameters."""

import importlib
import inspect
import pathlib
import unittest

import loosecursors

FUNCTIONS = {
    "bits": {
        "is_width": ["thing"], "is_hash": ["thing"], "bucket": ["code", "width"], "turned": ["number", "width"],
        "within": ["number", "small", "large"],
    },
    "shapes": {
        "is_shape": ["thing"], "places": ["shape"], "is_place": ["shape", "thing"],
        "place_of": ["shape", "code", "moved"],
    },
    "roads": {"full_road": ["shapes"]},
    "texts": {"format_rule": ["rule"], "format_road": ["road"], "parse_rule": ["text"], "parse_road": ["text"]},
    "runs": {
        "is_run": ["rule", "road", "thing"], "cursors_of": ["rule", "road", "run"],
        "lists_of": ["rule", "road", "run"], "is_whole": ["rule", "road", "run"],
        "listed": ["rule", "road", "run", "code"],
    },
    "missed": {
        "missed_run": ["rule", "road", "code"], "closed_set": ["rule", "road", "code"],
        "is_closed": ["rule", "road", "code", "thing"], "concerns": ["rule", "road", "code"],
    },
    "ends": {
        "longest": ["rule", "road"], "heights": ["rule", "road", "number"],
        "is_heights": ["rule", "road", "number", "thing"], "loop": ["rule", "road"],
        "is_loop": ["rule", "road", "thing"],
    },
    "times": {
        "most_times": ["rule", "road", "code"], "times_heights": ["rule", "road", "code", "number"],
        "is_times_heights": ["rule", "road", "code", "number", "thing"], "times_loop": ["rule", "road", "code"],
        "is_times_loop": ["rule", "road", "code", "thing"],
    },
    "least": {
        "fewest_calls": ["rule", "road"], "fewest_times": ["rule", "road", "code"],
        "depths": ["rule", "road", "number"], "is_depths": ["rule", "road", "number", "thing"],
    },
    "hashes": {"alike_hashes": ["road"], "verdicts": ["rule", "road"], "first_missed": ["rule", "road"]},
    "same": {
        "apart": ["rule", "other"], "do_the_same": ["rule", "other"], "pairs": ["rule", "other"],
        "is_together": ["rule", "other", "thing"],
    },
    "smallest": {"smallest": ["rule"], "told_apart": ["rule", "cursor", "other"], "groups": ["rule"]},
    "makers": {"counting": ["shapes"], "counting_down": ["shapes"], "reversed_bits": ["shapes"]},
}
CLASSES = {
    ("rules", "Rule"): {
        "__init__": ["self", "cursors", "calls"], "call": ["self", "shape", "cursor"],
        "with_call": ["self", "shape", "cursor", "call"], "with_shapes": ["self", "shapes"],
    },
    ("roads", "Road"): {
        "__init__": ["self", "begin", "changes"], "behind": ["self", "shape"], "without": ["self", "changes"],
        "with_change": ["self", "change"],
    },
}


def module(name):
    return importlib.import_module(f"loosecursors.{name}")


class TestInterface(unittest.TestCase):

    def test_functions(self):
        for name, functions in FUNCTIONS.items():
            for function, parameters in functions.items():
                with self.subTest(function):
                    found = getattr(module(name), function)
                    self.assertTrue(inspect.isfunction(found))
                    self.assertEqual(found.__module__, f"loosecursors.{name}")
                    self.assertEqual(list(inspect.signature(found).parameters), parameters)

    def test_methods(self):
        for (name, owner), methods in CLASSES.items():
            found = getattr(module(name), owner)
            self.assertEqual(found.__module__, f"loosecursors.{name}")
            for method, parameters in methods.items():
                with self.subTest(method):
                    self.assertEqual(list(inspect.signature(vars(found)[method]).parameters), parameters)


class TestFiles(unittest.TestCase):
    """What of the language's rules can be counted."""

    def files(self):
        return sorted(pathlib.Path(loosecursors.__file__).parent.rglob("*.py"))

    def test_sizes(self):
        for path in self.files():
            lines = path.read_text(encoding="utf-8").split("\n")
            with self.subTest(path.name):
                self.assertLessEqual(len(lines), 400)
                self.assertLessEqual(max([len(line) for line in lines]), 120)
                self.assertNotIn("\t", "".join(lines))

    def test_imports_come_from_the_package_and_the_named_parts_of_the_library(self):
        words = ("loosecursors.", "heapq ", "math ", "itertools ", "collections ", "__future__ ")
        for path in self.files():
            for line in path.read_text(encoding="utf-8").split("\n"):
                if line.startswith(("import ", "from ")) and path.name != "__main__.py":
                    with self.subTest(f"{path.name}: {line}"):
                        self.assertTrue(line.startswith(tuple([f"from {word}" for word in words])))


if __name__ == "__main__":
    unittest.main()
