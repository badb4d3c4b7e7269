"""Points 13 and 5 (e), and bothcome/nearest.py; points 2, 3 and 4 as far as they go here."""

import unittest

from bothcome.errors import TooSmall
from bothcome.nearest import beyond
from bothcome.plans import planned
from bothcome.rules import Nearest, run
from bothcome.trees import Tree
from tests.model import BIG, SMALL_TREES, Ways, is_same

BOUNDS = [(0, 0), (1, 0), (0, 1), (1, 1), (3, 5), (0, 200), (200, 0), (200, 200)]
TOO_SMALL = [[], [(0, 1)]]
LARGE_ENOUGH = [
    [(0, 2)],
    [(0, 1), (0, 1)],
    [(0, 1), (1, 1)],
    [(0, 3)],
    [(0, 40)],
    [(0, 1), (0, 1), (0, 1)],
    [(0, 1), (1, 1), (1, 1)],
    [(0, 1), (0, 40)],
    [(0, 40), (1, 1)],
    [(0, 1), (1, 1), (2, 1), (3, 1), (4, 1), (5, 1), (6, 1), (7, 1), (8, 1)],
    [(0, 1)] * 9,
    [(0, 40), (0, 1), (1, 39), (2, 40), (2, 2), (0, 17), (6, 40), (6, 3), (8, 25)],
    [(0, BIG), (0, 10 ** 29)],
] + SMALL_TREES[2:]


class BeyondTest(unittest.TestCase):
    def check(self, tree, k, factor, slack):
        result = beyond(tree, k, factor, slack)
        self.assertEqual((type(result), len(result)), (tuple, 3))
        crew, calls, plan = result
        for part in result:
            self.assertIs(type(part), list)
        self.assertEqual(len(crew), k)
        for point in crew + calls:
            self.assertTrue(is_same(point, tuple(point)))
            self.assertIn(point, tree)
        self.assertEqual(len(plan), len(calls))
        for number in plan:
            self.assertIs(type(number), int)
        # planned raises an error for numbers that no helper has.
        way = planned(tree, crew, calls, plan)[1]
        self.assertGreater(run(tree, Nearest(), crew, calls)[1], factor * way + slack)
        return result

    def test_all_trees_that_are_large_enough(self):
        for roads in LARGE_ENOUGH:
            for k in (2, 3, 4):
                for factor, slack in BOUNDS[:5]:
                    self.check(Tree(roads), k, factor, slack)

    def test_the_greatest_factor_and_slack(self):
        for roads in LARGE_ENOUGH[:4] + LARGE_ENOUGH[-1:]:
            for k in (2, 4):
                for factor, slack in BOUNDS[5:]:
                    self.check(Tree(roads), k, factor, slack)

    def test_against_single_steps(self):
        for roads in ([(0, 2)], [(0, 1), (0, 1)], [(0, 1), (1, 1)], SMALL_TREES[-1]):
            ways = Ways(roads)
            for k in (2, 3, 4):
                crew, calls, plan = beyond(Tree(roads), k, 7, 9)
                self.assertGreater(ways.run(Nearest(), crew, calls)[1], 7 * ways.planned(crew, calls, plan)[1] + 9)

    def test_hung_at_another_node(self):
        tree = Tree(SMALL_TREES[-1])
        for node in range(len(tree)):
            self.check(tree.hung(node), 2, 2, 3)
            crew, calls, plan = beyond(tree, 2, 2, 3)
            crew, calls = ([tree.hung_point(node, point) for point in points] for points in (crew, calls))
            way = planned(tree.hung(node), crew, calls, plan)[1]
            self.assertGreater(run(tree.hung(node), Nearest(), crew, calls)[1], 2 * way + 3)


class TooSmallTest(unittest.TestCase):
    def test_no_two_points_have_a_distance_of_2(self):
        for roads in TOO_SMALL:
            for k in (2, 3, 4):
                for factor, slack in BOUNDS:
                    with self.assertRaises(TooSmall):
                        beyond(Tree(roads), k, factor, slack)


class SameAnswersTest(unittest.TestCase):
    def test_asked_twice_with_other_trees_between(self):
        asked = [(Tree(roads), k, factor, 2) for roads in LARGE_ENOUGH for k in (2, 3) for factor in (0, 3)]
        first = [beyond(*one) for one in asked]
        self.assertTrue(is_same([beyond(*one) for one in asked], first))
        self.assertTrue(is_same([beyond(*one) for one in asked[::-1]], first[::-1]))

    def test_the_first_result_is_changed(self):
        for roads in ([(0, 2)], [(0, 1), (0, 1)], SMALL_TREES[-1]):
            tree = Tree(roads)
            kept = tuple(list(part) for part in beyond(tree, 3, 2, 4))
            for part in range(3):
                result = beyond(tree, 3, 2, 4)
                result[part].reverse()
                result[part].pop()
                self.assertTrue(is_same(beyond(tree, 3, 2, 4), kept))
            self.assertEqual(tree, Tree(roads))


if __name__ == "__main__":
    unittest.main()
