"""The interface, and the limits on the package's files that can be counted."""

import inspect
import unittest
from pathlib import Path

from bothcome import best, console, crews, factors, nearest, papers, plans, rivals, rules, texts, trees, watches

FOLDER = Path(trees.__file__).parent
FUNCTIONS = [
    (crews, "spread", "tree crew"), (crews, "apart", "tree crew other"), (crews, "matching", "tree crew other"),
    (crews, "cover", "tree crew other"),
    (rules, "lead", "tree rule crew call"), (rules, "who_came", "crew call"), (rules, "seers", "tree crew call"),
    (rules, "run", "tree rule crew calls"),
    (plans, "planned", "tree crew calls plan"),
    (papers, "potential", "tree crew other"), (papers, "paper", "tree crew other calls plan"),
    (papers, "is_paper", "tree crew other calls plan items"),
    (rivals, "rivals", "tree rule crew places many"), (rivals, "best_rival", "tree rule crew places many"),
    (nearest, "beyond", "tree k factor slack"),
    (factors, "ring", "tree places crew rule factor"), (factors, "numbers", "tree places crew rule factor"),
    (factors, "is_numbers", "tree places crew rule factor items"), (factors, "least_factor", "tree places crew rule"),
    (best, "best_way", "tree crew calls"), (best, "best_plan", "tree crew calls"), (best, "works", "tree crew calls ends"),
    (texts, "show_tree", "tree"), (texts, "show_points", "points"), (texts, "read_tree", "text"),
    (texts, "read_points", "text"),
]
METHODS = [
    (trees, "Tree", {
        "__init__": "roads", "__len__": "", "__contains__": "x", "__eq__": "other", "distance": "one other",
        "on_way": "point one other", "towards": "one other far", "hung": "node", "hung_point": "node point",
    }),
    (rules, "Nearest", {"__eq__": "other"}),
    (rules, "Both", {"__eq__": "other"}),
    (watches, "Watch", {
        "__init__": "tree crew rule", "__len__": "", "__iter__": "", "call": "point", "back": "count",
    }),
    (console, "Console", {"__init__": "", "execute": "command"}),
]
PROPERTIES = [(trees, "Tree", "roads"), (watches, "Watch", "crew"), (watches, "Watch", "calls"), (watches, "Watch", "way")]


def parameters(function):
    return " ".join(inspect.signature(function).parameters)


class InterfaceTest(unittest.TestCase):
    def test_each_function_stands_in_its_file(self):
        for module, name, arguments in FUNCTIONS:
            function = getattr(module, name)
            self.assertEqual(function.__module__, module.__name__)
            self.assertEqual(parameters(function), arguments)

    def test_each_method_stands_in_the_class_itself(self):
        for module, name, methods in METHODS:
            self.assertEqual(getattr(module, name).__module__, module.__name__)
            for method, arguments in methods.items():
                self.assertEqual(parameters(vars(getattr(module, name))[method]), f"self {arguments}".strip())
        for module, name, attribute in PROPERTIES:
            self.assertIsInstance(vars(getattr(module, name))[attribute], property)

    def test_count_of_back_is_passed_by_its_name_alone(self):
        count = inspect.signature(watches.Watch.back).parameters["count"]
        self.assertEqual((count.kind, count.default), (inspect.Parameter.KEYWORD_ONLY, 1))

    def test_roads_is_not_assigned(self):
        tree = trees.Tree([(0, 1)])
        with self.assertRaises(AttributeError):
            tree.roads = []
        self.assertEqual(tree.roads, [(0, 1)])


class FilesTest(unittest.TestCase):
    def sources(self):
        return sorted(FOLDER.rglob("*.py"))

    def test_the_folder_holds_program_files_alone(self):
        for path in FOLDER.rglob("*"):
            if "__pycache__" not in path.parts:
                self.assertTrue(path.is_dir() or path.suffix == ".py", path)

    def test_plain_characters_and_short_lines_and_files(self):
        for path in self.sources():
            text = path.read_bytes()
            self.assertTrue(all(sign == 10 or 32 <= sign <= 126 for sign in text), path)
            rows = text.split(b"\n")
            self.assertLess(len(rows), 400, path)
            self.assertLessEqual(max(map(len, rows)), 120, path)


if __name__ == "__main__":
    unittest.main()
