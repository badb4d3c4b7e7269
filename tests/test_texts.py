"""Point 18 and bothcome/texts.py; points 2, 3 and 4 as far as they go here."""

import unittest
from random import Random

from bothcome.errors import InvalidText
from bothcome.texts import read_points, read_tree, show_points, show_tree
from bothcome.trees import Tree
from tests.model import ODD_VALUES, SMALL_TREES, is_same

TREES = {
    "-": [],
    "0:1": [(0, 1)],
    "0:4 0:3 2:2": [(0, 4), (0, 3), (2, 2)],
    "0:10 1:200 2:3000": [(0, 10), (1, 200), (2, 3000)],
    "0:" + "9" * 30: [(0, 10 ** 30 - 1)],
    "0:1 0:1" + "0" * 29: [(0, 1), (0, 10 ** 29)],
    " ".join(f"{v}:1" for v in range(12)): [(v, 1) for v in range(12)],
}
POINTS = {
    "-": [],
    "0.0": [(0, 0)],
    "0.0 0.0": [(0, 0), (0, 0)],
    "3.1 0.12 10.0": [(3, 1), (0, 12), (10, 0)],
    "0.7 1000.99": [(0, 7), (1000, 99)],
    "9" * 30 + "." + "9" * 30: [(10 ** 30 - 1, 10 ** 30 - 1)],
    "1" + "0" * 29 + ".0": [(10 ** 29, 0)],
}
# What is wrong with the mark written as M.
WRONG = [
    "", " ", "  ", "M", "MM", "0", "1", "12", "0M", "M0", "M1", "0MM0", "0M1M", "M0M1", "0M1M1", "0 M1", "0M 1", "0 1", "0 M 1",
    " 0M1", "0M1 ", "0M1  0M1", "0M1 0", "0M1 M", "0M1 -", "- 0M1", "--", "- -", " -", "- ", "-0M1", "0M-1", "-1M1", "+0M1", "0M+1",
    "00M1", "0M01", "0M001", "01M1", "0M1,0M1", "0M1\t0M1", "0M1\n", "\n0M1", "0M1\n0M1", "0M1\r", "\t", "-\n",
    "aM1", "0Ma", "0xM1", "0M0x1", "0M1a", "0M1e3", "0M1.0", "0.0M1", "0M1_0", "1_0M1", "none", "None", "()", "(0M1)", "[]", "0/1",
    "0M\u0661", "\u0661M1", "0M\u00b2", "\u0b6bM1", "0M\uff11", "\uff10M1", "0\uff1a1", "0M1\u00a00M1", "\u20110M1", "0M\u2460",
    "0M" + "1" * 31, "1" * 31 + "M1", "0M1" + "0" * 30, "0M" + "9" * 400, "0M" + "0" * 31, "0" * 31 + "M1", "0M" + "0" * 29 + "1",
    "0M" + "9" * 5000,
]
OTHER_KINDS = [value for value in ODD_VALUES if not isinstance(value, str)] + [
    b"-", b"0:1", b"0.0", [], ["-"], ["0:1"], ["0.0"], ("-",), [(0, 1)], [(0, 0)], Tree([]),
]


class ReadTest(unittest.TestCase):
    def test_trees(self):
        for text, roads in TREES.items():
            tree = read_tree(text)
            self.assertIs(type(tree), Tree)
            self.assertTrue(is_same(tree.roads, roads))
            self.assertEqual(tree, Tree(roads))
            self.assertTrue(is_same(show_tree(Tree(roads)), text))
            self.assertTrue(is_same(show_tree(tree), text))

    def test_points(self):
        for text, points in POINTS.items():
            self.assertTrue(is_same(read_points(text), points))
            self.assertTrue(is_same(show_points(points), text))
            self.assertTrue(is_same(show_points(read_points(text)), text))

    def test_wrong_strings(self):
        for form in WRONG:
            with self.subTest(form), self.assertRaises(InvalidText):
                read_tree(form.replace("M", ":"))
            with self.subTest(form), self.assertRaises(InvalidText):
                read_points(form.replace("M", "."))

    def test_the_mark_of_the_other_kind(self):
        for text in ("0.1", "0.1 0.1", "0:1 0.1", "0;1"):
            with self.subTest(text), self.assertRaises(InvalidText):
                read_tree(text)
        for text in ("0:1", "0:1 0:1", "0.1 0:1", "0,1"):
            with self.subTest(text), self.assertRaises(InvalidText):
                read_points(text)

    def test_roads_that_form_no_tree(self):
        for text in ("0:0", "1:1", "2:1", "0:1 2:1", "0:1 3:1", "0:1 0:0", "0:1 1:0", "0:1 0:1 3:4", "9:1", "0:1 0:1 0:0"):
            with self.subTest(text), self.assertRaises(InvalidText):
                read_tree(text)

    def test_points_of_no_tree(self):
        self.assertEqual(read_points("0.1 7.0 0.99"), [(0, 1), (7, 0), (0, 99)])
        self.assertEqual(show_points([(0, 1), (7, 0), (0, 99)]), "0.1 7.0 0.99")

    def test_other_kinds(self):
        for value in OTHER_KINDS:
            for read in (read_tree, read_points):
                with self.subTest(repr(value)), self.assertRaises(InvalidText):
                    read(value)

    def test_thirty_digits_and_one_more(self):
        for many in range(1, 31):
            number = int("7" * many)
            self.assertEqual(read_tree("0:" + "7" * many).roads, [(0, number)])
            self.assertEqual(read_points(f"{number}.{number}"), [(number, number)])
        for text in ("0M" + "7" * 31, "0M1 1M" + "7" * 31, "7" * 31 + "M1"):
            with self.assertRaises(InvalidText):
                read_tree(text.replace("M", ":"))
            with self.assertRaises(InvalidText):
                read_points(text.replace("M", "."))


class RoundTest(unittest.TestCase):
    def test_showing_and_then_reading(self):
        draw = Random(110)
        for roads in SMALL_TREES:
            self.assertEqual(read_tree(show_tree(Tree(roads))), Tree(roads))
        for many in (0, 1, 2, 7, 50):
            points = [(draw.randrange(12), draw.randrange(10 ** draw.randrange(1, 30))) for _ in range(many)]
            self.assertTrue(is_same(read_points(show_points(points)), points))

    def test_reading_and_then_showing_drawn_strings(self):
        """What is read is shown as the same string: so each value has one text."""
        draw = Random(111)
        read = 0
        for _ in range(20000):
            text = "".join(draw.choice("0123 .:-") for _ in range(draw.randrange(1, 8)))
            for reader, shower in ((read_tree, show_tree), (read_points, show_points)):
                try:
                    value = reader(text)
                except InvalidText:
                    continue
                self.assertEqual(shower(value), text)
                read += 1
        self.assertGreater(read, 50)

    def test_no_argument_is_changed(self):
        points = [(1, 2), (0, 0)]
        show_points(points)
        self.assertEqual(points, [(1, 2), (0, 0)])
        first = read_points("1.2 0.0")
        first.clear()
        self.assertEqual(read_points("1.2 0.0"), points)


if __name__ == "__main__":
    unittest.main()
