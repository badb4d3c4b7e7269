"""Point 6 and bothcome/trees.py, but for hung trees; points 2 and 4 and 5 (a) as far as they go here."""

import unittest

from bothcome.errors import InvalidPoint, InvalidTree
from bothcome.trees import Tree
from tests.model import BIG, ODD_VALUES, SMALL_TREES, all_points, is_same, way

TEN_NODES = [(0, 4), (0, 3), (2, 2), (1, 40), (4, 1), (2, 7), (0, 1), (6, 5), (8, 2)]
LONG = [(0, BIG), (0, 40), (1, 10 ** 29), (1, 1)]

BAD_ROADS = [
    None, 5, True, "01", "ab", b"ab", [0, 1], {0: 1, 1: 2}, (), (0,), (0, 1, 1), (0, 1, None), ((0, 1),),
    (None, 1), ("0", 1), (0.0, 1), ([], 1), (True, 1), (False, 1), (-1, 1), (-BIG, 1), (BIG, 1),
    (0, None), (0, "1"), (0, 1.0), (0, []), (0, True), (0, False), (0, 0), (0, -1), (0, -BIG), Tree([]),
]


def bad_points(tree):
    """Values that are no points of this tree."""
    values = [[0, 0], [(0, 0)], ((0, 0),), (0,), (0, 0, 0), ("0", 0), (0, "0"), (0.0, 0), (0, 0.0), (None, 0), (0, None)]
    values += [(True, 0), (False, 0), (0, False), (0, True), (False, False), ([], 0), (0, []), ({}, {}), "00", tree]
    values += [(0, 1), (0, -1), (-1, 0), (len(tree), 0), (BIG, 0), (-BIG, 0), (0, BIG), (0, -BIG)]
    for node, (_, length) in enumerate(tree.roads, 1):
        values += [(node, length), (node, length + 1), (node, -1), (-node, 0), (node, False), (node, BIG * 10)]
    return values + ODD_VALUES


class BuildTest(unittest.TestCase):
    def test_roads_and_len(self):
        for roads in SMALL_TREES + [TEN_NODES, LONG, [(0, 1)], [(0, 40)], [(0, BIG)]]:
            with self.subTest(roads):
                tree = Tree(list(roads))
                self.assertTrue(is_same(tree.roads, roads))
                self.assertTrue(is_same(len(tree), len(roads) + 1))

    def test_a_value_that_is_no_list_is_refused(self):
        values = ODD_VALUES + [((0, 1),), ((0, 1), (0, 1)), "0:1", Tree([]), Tree([(0, 1)]), {1: (0, 1)}, {(0, 1)}]
        for value in values + [iter([(0, 1)]), zip([0], [1]), {(0, 1): 1}.keys()]:
            with self.subTest(repr(value)), self.assertRaises(InvalidTree):
                Tree(value)

    def test_a_list_with_one_bad_road_at_any_place_is_refused(self):
        good = [(0, 1), (1, 2), (0, 3), (2, 1)]
        for at in range(len(good)):
            for bad in BAD_ROADS + [(at + 1, 1), (at + 2, 1)]:
                with self.subTest(at=at, bad=repr(bad)), self.assertRaises(InvalidTree):
                    Tree(good[:at] + [bad] + good[at + 1:])
        self.assertEqual(Tree(good).roads, good)

    def test_a_parent_is_any_node_with_a_lesser_number(self):
        for parent in range(9):
            roads = [(0, 1)] * 8 + [(parent, 2)]
            self.assertEqual(Tree(roads).roads, roads)
        with self.assertRaises(InvalidTree):
            Tree([(0, 1)] * 8 + [(9, 2)])

    def test_the_list_that_was_received_may_be_changed_afterwards(self):
        given = list(TEN_NODES)
        tree = Tree(given)
        self.assertEqual(given, TEN_NODES)
        given[0] = (0, 1)
        given.append((0, 9))
        self.assertEqual(tree.roads, TEN_NODES)
        self.assertEqual(len(tree), 10)
        self.assertEqual(tree, Tree(TEN_NODES))
        self.assertNotEqual(tree, Tree(given))
        self.assertEqual(tree.distance((1, 0), (2, 0)), 7)
        self.assertNotIn((10, 0), tree)
        self.assertIn((1, 3), tree)

    def test_the_list_that_roads_returned_may_be_changed_afterwards(self):
        tree = Tree(TEN_NODES)
        for change in (lambda xs: xs.append((0, 9)), lambda xs: xs.clear(), lambda xs: xs.__setitem__(0, (0, 1))):
            change(tree.roads)
            self.assertEqual(tree.roads, TEN_NODES)
            self.assertEqual(len(tree), 10)
            self.assertEqual(tree, Tree(TEN_NODES))
            self.assertEqual(tree.distance((1, 0), (2, 0)), 7)
            self.assertIn((1, 3), tree)
            self.assertEqual(tree.hung(0), Tree(TEN_NODES).hung(0))


class EqualTest(unittest.TestCase):
    def test_equal_roads(self):
        for roads in SMALL_TREES + [LONG]:
            self.assertIs(Tree(roads) == Tree(list(roads)), True)
            self.assertIs(Tree(roads) != Tree(list(roads)), False)

    def test_other_roads(self):
        trees = [Tree(roads) for roads in SMALL_TREES + [LONG, [(0, 2)], [(0, 2), (0, 3)], [(0, 3), (0, 2)], [(0, 2), (1, 3)]]]
        for i, one in enumerate(trees):
            for k, other in enumerate(trees):
                self.assertIs(one == other, i == k)
                self.assertIs(one != other, i != k)

    def test_other_values(self):
        for roads in ([], [(0, 4), (0, 3)]):
            tree = Tree(roads)
            for value in ODD_VALUES + [roads, list(roads), tuple(roads), len(tree), str(roads)]:
                with self.subTest(repr(value)):
                    self.assertIs(tree == value, False)
                    self.assertIs(value == tree, False)
                    self.assertIs(tree != value, True)


class ContainsTest(unittest.TestCase):
    def test_all_points_are_in_it(self):
        for roads in SMALL_TREES + [TEN_NODES]:
            tree = Tree(roads)
            for point in all_points(roads):
                self.assertIs(point in tree, True, (roads, point))

    def test_the_ends_of_roads(self):
        for roads in (TEN_NODES, LONG):
            tree = Tree(roads)
            for node, (_, length) in enumerate(roads, 1):
                self.assertIn((node, 0), tree)
                self.assertIn((node, length - 1), tree)
                self.assertNotIn((node, length), tree)
                self.assertNotIn((node, -1), tree)

    def test_the_root_is_one_point_alone(self):
        for roads in SMALL_TREES:
            self.assertIn((0, 0), Tree(roads))
            self.assertNotIn((0, 1), Tree(roads))
            self.assertNotIn((0, -1), Tree(roads))

    def test_other_values_are_none_and_raise_nothing(self):
        for roads in SMALL_TREES + [TEN_NODES, LONG]:
            tree = Tree(roads)
            for value in bad_points(tree):
                with self.subTest(roads=roads, value=repr(value)):
                    self.assertIs(value in tree, False)

    def test_truth_values_are_no_parts(self):
        tree = Tree([(0, 4), (0, 3)])
        for value in ((True, 0), (True, 1), (1, True), (1, False), (2, True), (False, 0), (0, False), (True, True)):
            self.assertNotIn(value, tree)


class WayTest(unittest.TestCase):
    def test_the_example_of_the_document(self):
        tree = Tree([(0, 4), (0, 3), (2, 2)])
        self.assertTrue(is_same(tree.distance((1, 0), (3, 1)), 8))

    def test_distances_on_way_and_towards_on_all_ways_of_small_trees(self):
        for roads in SMALL_TREES:
            tree = Tree(roads)
            points = all_points(roads)
            for one in points:
                for other in points:
                    self.check_way(tree, points, one, other, way(roads, one, other))

    def check_way(self, tree, points, one, other, walked):
        self.assertTrue(is_same(tree.distance(one, other), len(walked) - 1), (tree.roads, one, other))
        for point in points:
            self.assertIs(tree.on_way(point, one, other), point in walked, (tree.roads, point, one, other))
        for far, point in enumerate(walked):
            self.assertTrue(is_same(tree.towards(one, other, far), point), (tree.roads, one, other, far))

    def test_by_hand_with_ten_nodes(self):
        tree = Tree(TEN_NODES)
        self.assertEqual(tree.distance((5, 0), (9, 1)), 61)
        self.assertEqual(tree.distance((4, 39), (3, 1)), 9)
        self.assertEqual(tree.distance((4, 39), (4, 1)), 38)
        self.assertEqual(tree.towards((5, 0), (9, 1), 41), (1, 0))
        self.assertEqual(tree.towards((5, 0), (9, 1), 40), (4, 39))
        self.assertEqual(tree.towards((5, 0), (9, 1), 45), (0, 0))
        self.assertEqual(tree.towards((5, 0), (9, 1), 46), (2, 2))
        self.assertIs(tree.on_way((2, 0), (5, 0), (9, 1)), True)
        self.assertIs(tree.on_way((3, 1), (5, 0), (9, 1)), False)

    def test_long_roads(self):
        tree = Tree(LONG)
        self.assertEqual(tree.distance((3, 0), (2, 0)), 10 ** 29 + BIG + 40)
        self.assertEqual(tree.distance((4, 0), (3, 10 ** 29 - 1)), 2)
        self.assertEqual(tree.distance((1, 5), (1, BIG - 1)), BIG - 6)
        self.assertEqual(tree.towards((3, 0), (2, 0), 10 ** 29), (1, 0))
        self.assertEqual(tree.towards((3, 0), (2, 0), 10 ** 29 + BIG + 1), (2, 39))
        self.assertEqual(tree.towards((2, 0), (3, 0), 40 + BIG + 1), (3, 10 ** 29 - 1))
        self.assertIs(tree.on_way((1, 7), (3, 0), (2, 0)), True)
        self.assertIs(tree.on_way((4, 0), (3, 0), (2, 0)), False)


class InvalidPointTest(unittest.TestCase):
    def setUp(self):
        self.tree = Tree([(0, 4), (0, 3), (2, 2)])

    def good_calls_are_answered(self):
        self.assertEqual(self.tree.distance((1, 0), (3, 1)), 8)
        self.assertIs(self.tree.on_way((2, 1), (1, 0), (3, 1)), True)
        self.assertEqual(self.tree.towards((1, 0), (3, 1), 6), (2, 1))
        self.assertEqual(self.tree.roads, [(0, 4), (0, 3), (2, 2)])

    def test_each_place_on_its_own(self):
        tree = self.tree
        calls = [
            lambda bad: tree.distance(bad, (3, 1)), lambda bad: tree.distance((1, 0), bad),
            lambda bad: tree.on_way(bad, (1, 0), (3, 1)), lambda bad: tree.on_way((2, 1), bad, (3, 1)),
            lambda bad: tree.on_way((2, 1), (1, 0), bad),
            lambda bad: tree.towards(bad, (3, 1), 0), lambda bad: tree.towards((1, 0), bad, 0),
        ]
        self.good_calls_are_answered()
        for number, call in enumerate(calls):
            for bad in bad_points(tree):
                with self.subTest(number, bad=repr(bad)), self.assertRaises(InvalidPoint):
                    call(bad)
        self.good_calls_are_answered()

    def test_all_places_at_once(self):
        for bad in bad_points(self.tree):
            with self.assertRaises(InvalidPoint):
                self.tree.distance(bad, bad)
            with self.assertRaises(InvalidPoint):
                self.tree.on_way(bad, bad, bad)
            with self.assertRaises(InvalidPoint):
                self.tree.towards(bad, bad, 0)
        self.good_calls_are_answered()

    def test_far_beyond_the_way(self):
        for one, other in (((1, 0), (3, 1)), ((3, 1), (1, 0)), ((1, 1), (1, 3)), ((0, 0), (1, 0)), ((2, 0), (2, 0))):
            length = self.tree.distance(one, other)
            self.assertEqual(self.tree.towards(one, other, length), other)
            for far in (-1, -2, -BIG, length + 1, length + 2, BIG):
                with self.subTest(one=one, other=other, far=far), self.assertRaises(InvalidPoint):
                    self.tree.towards(one, other, far)
        self.good_calls_are_answered()

    def test_far_that_is_no_integer(self):
        values = [None, True, False, "", "0", "1", 0.0, 1.0, 0.5, [], [1], (), (1,), (1, 0), {}, {1}, b"1", self.tree]
        for one, other in (((1, 0), (3, 1)), ((3, 1), (1, 0)), ((2, 0), (2, 0))):
            for far in values:
                with self.subTest(one=one, far=repr(far)), self.assertRaises(InvalidPoint):
                    self.tree.towards(one, other, far)
        self.good_calls_are_answered()

    def test_a_point_of_another_tree_is_judged_by_this_one(self):
        longer = Tree([(0, 5), (0, 3), (2, 2), (1, 1)])
        for point in ((1, 4), (4, 0)):
            self.assertEqual(longer.distance(point, point), 0)
            with self.assertRaises(InvalidPoint):
                self.tree.distance(point, point)
            with self.assertRaises(InvalidPoint):
                self.tree.towards((0, 0), point, 0)


class SameAnswersTest(unittest.TestCase):
    def test_trees_that_are_asked_in_turn(self):
        all_roads = [[(0, 4), (0, 3), (2, 2)], [(0, 3), (0, 4), (1, 2)], [(0, 4), (1, 3), (2, 2)], [(0, 2), (0, 2), (0, 2)]]
        trees = [Tree(roads) for roads in all_roads]
        for _ in range(2):
            for one in [(1, 0), (1, 1), (2, 1), (3, 1)]:
                for other in [(0, 0), (2, 0), (3, 0), (3, 1)]:
                    for roads, tree in zip(all_roads, trees):
                        walked = way(roads, one, other)
                        self.assertEqual(tree.distance(one, other), len(walked) - 1)
                        self.assertEqual(tree.towards(one, other, len(walked) // 2), walked[len(walked) // 2])
                        self.assertIs(tree.on_way((2, 1), one, other), (2, 1) in walked)

    def test_asking_changes_nothing(self):
        tree = Tree(TEN_NODES)
        for _ in range(2):
            tree.distance((5, 0), (9, 1))
            tree.on_way((1, 0), (5, 0), (9, 1))
            tree.towards((5, 0), (9, 1), 3)
            tree.hung(5)
            tree.hung_point(5, (4, 1))
            self.assertTrue(is_same(tree.roads, TEN_NODES))
            self.assertEqual(tree, Tree(TEN_NODES))
            self.assertEqual(len(tree), 10)


if __name__ == "__main__":
    unittest.main()
