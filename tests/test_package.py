"""The interface, and the limits on the package's files that can be counted."""

import inspect
import unittest
from pathlib import Path

from bothcome import crews, factors, nearest, papers, plans, rivals, rules, trees

FOLDER = Path(trees.__file__).parent
FUNCTIONS = [
    (crews, "spread", 2), (crews, "apart", 3), (crews, "matching", 3), (crews, "cover", 3),
    (rules, "lead", 4), (rules, "who_came", 2), (rules, "seers", 3), (rules, "run", 4),
    (plans, "planned", 4),
    (papers, "potential", 3), (papers, "paper", 5), (papers, "is_paper", 6),
    (rivals, "rivals", 5), (rivals, "best_rival", 5),
    (nearest, "beyond", 4),
    (factors, "ring", 5), (factors, "numbers", 5), (factors, "is_numbers", 6), (factors, "least_factor", 4),
]
METHODS = [
    (trees, "Tree", [
        "__init__", "__len__", "__contains__", "__eq__", "roads", "distance", "on_way", "towards", "hung", "hung_point",
    ]),
    (rules, "Nearest", ["__eq__"]),
    (rules, "Both", ["__eq__"]),
]


class InterfaceTest(unittest.TestCase):
    def test_each_function_stands_in_its_file(self):
        for module, name, arguments in FUNCTIONS:
            function = getattr(module, name)
            self.assertEqual(function.__module__, module.__name__)
            self.assertEqual(len(inspect.signature(function).parameters), arguments)

    def test_each_method_stands_in_the_class_itself(self):
        for module, name, methods in METHODS:
            self.assertEqual(getattr(module, name).__module__, module.__name__)
            for method in methods:
                self.assertIn(method, vars(getattr(module, name)))
        self.assertIsInstance(vars(trees.Tree)["roads"], property)

    def test_roads_is_not_assigned(self):
        tree = trees.Tree([(0, 1)])
        with self.assertRaises(AttributeError):
            tree.roads = []
        self.assertEqual(tree.roads, [(0, 1)])


class FilesTest(unittest.TestCase):
    def sources(self):
        return sorted(FOLDER.rglob("*.py"))

    def test_the_folder_holds_program_files_alone(self):
        for path in FOLDER.rglob("*"):
            if "__pycache__" not in path.parts:
                self.assertTrue(path.is_dir() or path.suffix == ".py", path)

    def test_plain_characters_and_short_lines_and_files(self):
        for path in self.sources():
            text = path.read_bytes()
            self.assertTrue(all(sign == 10 or 32 <= sign <= 126 for sign in text), path)
            rows = text.split(b"\n")
            self.assertLess(len(rows), 400, path)
            self.assertLessEqual(max(map(len, rows)), 120, path)


if __name__ == "__main__":
    unittest.main()
