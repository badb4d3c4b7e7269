"""Points 16 and 5 (g), and bothcome/best.py; points 2, 3 and 4 as far as they go here."""

import unittest
from itertools import product
from random import Random

from bothcome.best import best_plan, best_way, works
from bothcome.crews import apart
from bothcome.errors import InvalidCrew
from bothcome.plans import planned
from bothcome.trees import Tree
from tests.model import BIG, ODD_VALUES, SMALL_TREES, Ways, all_points, is_same

TREE = [(0, 4), (0, 3), (2, 2)]
CREW = [(1, 0), (2, 0)]
CALLS = [(0, 0), (3, 0), (0, 0), (1, 1)]
LARGE = [(0, 40), (0, 1), (1, 39), (2, 40), (2, 2), (0, 17), (6, 40), (6, 3), (8, 25)]


def drawn(draw, roads, many, many_calls):
    points = all_points(roads)
    return [draw.choice(points) for _ in range(many)], [draw.choice(points) for _ in range(many_calls)]


def all_plans(crew, calls):
    """All plans, ordered as lists are."""
    return [list(plan) for plan in product(range(len(crew)), repeat=len(calls))]


class BestTest(unittest.TestCase):
    def check(self, tree, crew, calls, way, plan):
        self.assertTrue(is_same(best_way(tree, crew, calls), way), (tree.roads, crew, calls))
        self.assertTrue(is_same(best_plan(tree, crew, calls), plan), (tree.roads, crew, calls))

    def test_by_hand(self):
        tree = Tree(TREE)
        # Helper 0 goes 4 and stays at (0, 0), helper 1 goes 2; helper 0 goes 3 to (1, 1).
        self.check(tree, CREW, CALLS, 9, [0, 1, 0, 0])
        self.check(tree, CREW, CALLS[:1], 3, [1])
        self.check(tree, CREW, CALLS[:3], 6, [0, 1, 0])
        self.check(tree, [(2, 0), (1, 0)], CALLS[:3], 6, [1, 0, 1])

    def test_no_calls(self):
        for crew in ([(1, 0)], CREW, [(2, 1)] * 3):
            self.check(Tree(TREE), crew, [], 0, [])
        self.check(Tree([]), [(0, 0)], [], 0, [])

    def test_one_helper(self):
        self.check(Tree(TREE), [(3, 0)], CALLS, 5 + 5 + 5 + 3, [0] * 4)
        self.check(Tree([]), [(0, 0)] * 2, [(0, 0)] * 8, 0, [0] * 8)

    def test_several_helpers_at_one_point(self):
        tree = Tree(TREE)
        self.check(tree, [(0, 0)] * 3, [(1, 0), (3, 0), (1, 0)], 4 + 5, [0, 1, 0])
        self.check(tree, [(0, 0)] * 3, [(0, 0), (3, 0), (0, 0)], 5, [0, 0, 1])
        self.check(tree, [(3, 0), (0, 0), (0, 0)], [(0, 0)] * 4, 0, [1] * 4)

    def test_equal_calls(self):
        for many in (1, 4, 8):
            self.check(Tree(TREE), CREW, [(0, 0)] * many, 3, [1] * many)
            self.check(Tree(TREE), [(1, 0), (1, 0), (2, 0)], [(1, 0)] * many, 0, [0] * many)

    def test_the_first_of_equal_plans(self):
        tree = Tree([(0, 2), (0, 2), (0, 2)])
        self.check(tree, [(1, 0), (2, 0), (3, 0)], [(0, 0)], 2, [0])
        # It is as far to go out with helper 0 or to leave it there.
        self.check(tree, [(0, 0), (1, 0)], [(0, 0), (1, 0)], 0, [0, 1])
        self.check(tree, [(1, 0), (0, 0)], [(2, 0), (0, 0)], 4, [0, 1])
        self.check(Tree([(0, 4)]), [(1, 2), (1, 2)], [(1, 0), (1, 2), (0, 0)], 4, [0, 1, 1])
        # Helper 0 goes to a call although helper 1 is there: it is on its way.
        self.check(Tree([(0, 2), (1, 2)]), [(0, 0), (1, 0)], [(1, 0), (2, 0), (1, 0)], 4, [0, 0, 1])

    def test_against_all_plans(self):
        draw = Random(80)
        for roads in SMALL_TREES:
            tree, ways = Tree(roads), Ways(roads)
            for many, many_calls in ((1, 3), (2, 1), (2, 4), (2, 6), (3, 2), (3, 3), (3, 5), (4, 3)):
                crew, calls = drawn(draw, roads, many, many_calls)
                plans = all_plans(crew, calls)
                gone = [ways.planned(crew, calls, plan)[1] for plan in plans]
                self.check(tree, crew, calls, min(gone), plans[gone.index(min(gone))])

    def test_against_all_plans_for_calls_at_few_points(self):
        draw = Random(81)
        for roads in SMALL_TREES:
            ways, points = Ways(roads), all_points(roads)
            for _ in range(4):
                places = draw.sample(points, min(3, len(points)))
                crew, calls = [draw.choice(places) for _ in range(3)], [draw.choice(places) for _ in range(5)]
                plans = all_plans(crew, calls)
                gone = [ways.planned(crew, calls, plan)[1] for plan in plans]
                self.check(Tree(roads), crew, calls, min(gone), plans[gone.index(min(gone))])

    def test_eight_calls_with_three_helpers(self):
        draw = Random(82)
        for roads in (SMALL_TREES[-1], SMALL_TREES[5]):
            ways = Ways(roads)
            crew, calls = drawn(draw, roads, 3, 8)
            plans = all_plans(crew, calls)
            gone = [ways.planned(crew, calls, plan)[1] for plan in plans]
            self.check(Tree(roads), crew, calls, min(gone), plans[gone.index(min(gone))])

    def test_the_plan_has_the_way(self):
        draw = Random(83)
        for _ in range(20):
            crew, calls = drawn(draw, LARGE, 3, 8)
            plan = best_plan(Tree(LARGE), crew, calls)
            self.assertEqual(planned(Tree(LARGE), crew, calls, plan)[1], best_way(Tree(LARGE), crew, calls))
            for _ in range(20):
                other = [draw.randrange(3) for _ in calls]
                way = planned(Tree(LARGE), crew, calls, other)[1]
                self.assertLessEqual(best_way(Tree(LARGE), crew, calls), way)

    def test_somewhat_more_than_the_limits(self):
        draw = Random(84)
        crew, calls = drawn(draw, SMALL_TREES[-1], 4, 10)
        plan = best_plan(Tree(SMALL_TREES[-1]), crew, calls)
        way = Ways(SMALL_TREES[-1]).planned(crew, calls, plan)[1]
        self.assertEqual(best_way(Tree(SMALL_TREES[-1]), crew, calls), way)
        crew, calls = drawn(draw, SMALL_TREES[-1], 2, 40)
        self.assertEqual(len(best_plan(Tree(SMALL_TREES[-1]), crew, calls)), 40)

    def test_long_roads(self):
        draw = Random(85)
        for roads in SMALL_TREES:
            tree = Tree([(parent, length * BIG) for parent, length in roads])
            crew, calls = drawn(draw, roads, 3, 5)
            long_crew, long_calls = ([(v, up * BIG) for v, up in points] for points in (crew, calls))
            self.assertEqual(best_way(tree, long_crew, long_calls), BIG * best_way(Tree(roads), crew, calls))
            self.assertEqual(best_plan(tree, long_crew, long_calls), best_plan(Tree(roads), crew, calls))
            ends = BIG * works(Tree(roads), crew, calls, crew)
            self.assertEqual(works(tree, long_crew, long_calls, long_crew), ends)


class WorksTest(unittest.TestCase):
    def check(self, tree, crew, calls, ends, wanted):
        self.assertTrue(is_same(works(tree, crew, calls, ends), wanted), (tree.roads, crew, calls, ends))

    def test_by_hand(self):
        tree = Tree(TREE)
        self.check(tree, CREW, [(0, 0)], [(1, 0), (2, 0)], 6)
        self.check(tree, CREW, [(0, 0)], [(2, 0), (1, 0)], 6)
        self.check(tree, CREW, [(0, 0)], [(0, 0), (2, 0)], 4)
        self.check(tree, CREW, [(0, 0)], [(2, 0), (2, 0)], 7)
        self.check(tree, CREW, CALLS, [(3, 0), (3, 0)], 4 + 2 + 3 + 8)
        self.check(tree, [(3, 0)], [(1, 0), (2, 0)], [(3, 0)], 9 + 7 + 2)

    def test_no_calls(self):
        draw = Random(86)
        for roads in SMALL_TREES:
            for many in (1, 2, 3, 3):
                crew, ends = (drawn(draw, roads, many, 0)[0] for _ in range(2))
                wanted = Ways(roads).apart(crew, ends)
                self.check(Tree(roads), crew, [], ends, wanted)
                self.assertEqual(apart(Tree(roads), crew, ends), wanted)

    def test_against_all_plans_and_orders_of_the_ends(self):
        draw = Random(87)
        for roads in SMALL_TREES:
            ways = Ways(roads)
            for many, many_calls in ((1, 2), (2, 1), (2, 3), (2, 5), (3, 2), (3, 4)):
                crew, calls = drawn(draw, roads, many, many_calls)
                ends = drawn(draw, roads, many, 0)[0]
                self.check(Tree(roads), crew, calls, ends, self.least(ways, crew, calls, ends))

    def least(self, ways, crew, calls, ends):
        behind = [ways.planned(crew, calls, plan) for plan in all_plans(crew, calls)]
        return min(gone + ways.apart(now, ends) for now, gone in behind)

    def test_eight_calls_with_three_helpers(self):
        draw = Random(88)
        ways = Ways(SMALL_TREES[5])
        crew, calls = drawn(draw, SMALL_TREES[5], 3, 8)
        ends = drawn(draw, SMALL_TREES[5], 3, 0)[0]
        self.check(Tree(SMALL_TREES[5]), crew, calls, ends, self.least(ways, crew, calls, ends))

    def test_the_order_of_the_ends_does_not_matter(self):
        draw = Random(89)
        for _ in range(10):
            crew, calls = drawn(draw, LARGE, 3, 6)
            ends = drawn(draw, LARGE, 3, 0)[0]
            first = works(Tree(LARGE), crew, calls, ends)
            for order in ((0, 2, 1), (1, 0, 2), (1, 2, 0), (2, 0, 1), (2, 1, 0)):
                self.assertEqual(works(Tree(LARGE), crew, calls, [ends[k] for k in order]), first)
            self.assertGreaterEqual(first, best_way(Tree(LARGE), crew, calls))

    def test_ends_that_are_none(self):
        tree = Tree(TREE)
        wrong = ODD_VALUES + [tuple(CREW), set(CREW), dict.fromkeys(CREW), iter(CREW), "00", [], CREW[:1], CREW * 2]
        wrong += [CREW + [(0, 0)], [CREW, CREW], [[1, 0], [2, 0]]]
        for bad in ODD_VALUES + [(1, 4), (4, 0), (0, 1), (-1, 0), (1, -1), [0, 0], (0,), (0, 0, 0), (False, 0), (0.0, 0)]:
            wrong += [[(1, 0), bad], [bad, (1, 0)]]
        for ends in wrong:
            for calls in ([], CALLS):
                with self.subTest(repr(ends)), self.assertRaises(InvalidCrew):
                    works(tree, CREW, calls, ends)
        for many in (1, 2, 3, 4):
            for others in {1, 2, 3, 4, 5, 8} - {many}:
                with self.assertRaises(InvalidCrew):
                    works(tree, [(0, 0)] * many, [], [(0, 0)] * others)
        self.assertEqual(works(tree, CREW, CALLS, CREW), 4 + 2 + 3 + 1 + 2)


class HungTest(unittest.TestCase):
    def test_a_tree_hung_at_another_node(self):
        draw = Random(90)
        for roads in SMALL_TREES:
            tree = Tree(roads)
            for node in range(len(tree)):
                crew, calls = drawn(draw, roads, 3, 4)
                new_crew, new_calls = ([tree.hung_point(node, point) for point in points] for points in (crew, calls))
                hung = tree.hung(node)
                self.assertEqual(best_way(hung, new_crew, new_calls), best_way(tree, crew, calls))
                self.assertEqual(best_plan(hung, new_crew, new_calls), best_plan(tree, crew, calls))
                wanted = works(tree, crew, calls, calls[:3])
                self.assertEqual(works(hung, new_crew, new_calls, new_calls[:3]), wanted)


class SameAnswersTest(unittest.TestCase):
    def test_no_argument_is_changed(self):
        tree, crew, calls, ends = Tree(TREE), list(CREW), list(CALLS), [(3, 0), (1, 2)]
        best_way(tree, crew, calls)
        best_plan(tree, crew, calls)
        works(tree, crew, calls, ends)
        self.assertEqual((tree, crew, calls, ends), (Tree(TREE), CREW, CALLS, [(3, 0), (1, 2)]))

    def test_a_returned_plan_is_changed(self):
        kept = best_plan(Tree(TREE), CREW, CALLS)
        first = best_plan(Tree(TREE), CREW, CALLS)
        first.clear()
        self.assertEqual(best_plan(Tree(TREE), CREW, CALLS), kept)

    def test_arguments_are_changed_in_place(self):
        tree, crew, calls = Tree(TREE), list(CREW), list(CALLS)
        self.assertEqual(best_plan(tree, crew, calls), [0, 1, 0, 0])
        crew.reverse()
        self.assertEqual(best_plan(tree, crew, calls), [1, 0, 1, 1])
        calls.clear()
        self.assertEqual(best_plan(tree, crew, calls), [])
        self.assertEqual(works(tree, crew, calls, CREW), 0)


if __name__ == "__main__":
    unittest.main()
