"""Point 10 and bothcome/plans.py; points 2, 3 and 4 as far as they go here."""

import unittest
from random import Random

from bothcome.errors import InvalidPlan
from bothcome.plans import planned
from bothcome.trees import Tree
from tests.model import BIG, ODD_VALUES, SMALL_TREES, Ways, all_points, is_same

TREE = [(0, 4), (0, 3), (2, 2)]
CREW = [(1, 0), (2, 0), (0, 0)]
CALLS = [(0, 0), (3, 0), (1, 2)]
NO_NUMBERS = [
    None, True, False, -1, -2, -3, 3, 4, 10 ** 30, -(10 ** 30), 0.0, 1.0, 0.5, 2j, "0", "1", "", b"1", (), (0,), (0, 1),
    (0, 0), [], [0], [1], {}, {0}, {0: 0}, range(1), int, object(),
]
NO_PLANS = ODD_VALUES + [
    (0, 1, 2), (0, 0, 0), "012", "000", b"012", {0, 1, 2}, {0: 0, 1: 1, 2: 2}, range(3), iter([0, 1, 2]), 3, 12,
    [], [0], [0, 1], [0, 1, 2, 0], [0, 0, 0, 0], [0] * 6, [[0, 1, 2]], [(0, 1, 2)], [[0], [1], [2]], [CALLS],
    CREW, CALLS, Tree([]), Tree(TREE),
]


def plans_with_one_bad_number():
    for bad in NO_NUMBERS:
        for at in range(3):
            yield [0, 1, 2][:at] + [bad] + [0, 1, 2][at + 1:]


class PlannedTest(unittest.TestCase):
    def check(self, plan, wanted):
        self.assertTrue(is_same(planned(Tree(TREE), CREW, CALLS, plan), wanted), plan)

    def test_by_hand(self):
        self.check([1, 1, 0], ([(1, 2), (3, 0), (0, 0)], 3 + 5 + 2))
        self.check([2, 1, 0], ([(1, 2), (3, 0), (0, 0)], 0 + 2 + 2))
        self.check([0, 0, 0], ([(1, 2), (2, 0), (0, 0)], 4 + 5 + 7))
        self.check([2, 2, 2], ([(1, 0), (2, 0), (1, 2)], 0 + 5 + 7))
        self.check([0, 1, 2], ([(0, 0), (3, 0), (1, 2)], 4 + 2 + 2))

    def test_no_calls_and_the_empty_plan(self):
        for crew in ([(1, 0)], CREW, [(2, 1)] * 4):
            before = list(crew)
            result = planned(Tree(TREE), crew, [], [])
            self.assertTrue(is_same(result, (crew, 0)))
            result[0][0] = None
            self.assertEqual(crew, before)

    def test_one_helper(self):
        self.assertTrue(is_same(planned(Tree(TREE), [(3, 0)], CALLS, [0, 0, 0]), ([(1, 2)], 5 + 5 + 7)))
        self.assertTrue(is_same(planned(Tree([]), [(0, 0)], [(0, 0)] * 2, [0, 0]), ([(0, 0)], 0)))

    def test_many_calls_against_the_walked_ways(self):
        draw = Random(10)
        for roads in SMALL_TREES:
            tree, ways, points = Tree(roads), Ways(roads), all_points(roads)
            for many in (1, 2, 3, 4):
                crew = [draw.choice(points) for _ in range(many)]
                for many_calls in (1, 2, 7, 40):
                    calls = [draw.choice(points) for _ in range(many_calls)]
                    plan = [draw.randrange(many) for _ in calls]
                    self.assertTrue(is_same(planned(tree, crew, calls, plan), ways.planned(crew, calls, plan)))

    def test_a_tree_hung_at_another_node(self):
        draw = Random(11)
        for roads in SMALL_TREES:
            tree, points = Tree(roads), all_points(roads)
            for node in range(len(tree)):
                crew, calls = [draw.choice(points) for _ in range(3)], [draw.choice(points) for _ in range(5)]
                plan = [draw.randrange(3) for _ in calls]
                now, gone = planned(tree, crew, calls, plan)
                crew, calls, now = ([tree.hung_point(node, point) for point in points] for points in (crew, calls, now))
                self.assertEqual(planned(tree.hung(node), crew, calls, plan), (now, gone))

    def test_long_roads(self):
        tree = Tree([(0, BIG), (0, 10 ** 29)])
        result = planned(tree, [(1, 0), (2, 1)], [(2, 0), (1, BIG - 1), (2, 0)], [0, 1, 0])
        self.assertTrue(is_same(result, ([(2, 0), (1, BIG - 1)], BIG + 2 * 10 ** 29)))


class InvalidPlanTest(unittest.TestCase):
    def check_refused(self, crew, calls, plan):
        with self.subTest(repr(plan)), self.assertRaises(InvalidPlan):
            planned(Tree(TREE), crew, calls, plan)

    def test_values_that_are_no_plan(self):
        for plan in NO_PLANS + list(plans_with_one_bad_number()):
            self.check_refused(CREW, CALLS, plan)

    def test_a_number_equal_to_that_of_the_helpers(self):
        for many in (1, 2, 3, 4):
            crew = [(1, 0)] * many
            self.assertTrue(is_same(planned(Tree(TREE), crew, [(1, 0)], [many - 1]), (crew, 0)))
            for number in (many, many + 1, -1, -many):
                self.check_refused(crew, [(1, 0)], [number])

    def test_no_calls(self):
        for plan in [value for value in NO_PLANS if value != []] + [(), [[]], [()], [0], [None]]:
            self.check_refused(CREW, [], plan)

    def test_good_plans_are_answered_behind_as_ahead(self):
        tree, crew, calls = Tree(TREE), list(CREW), list(CALLS)
        for plan in NO_PLANS + list(plans_with_one_bad_number()):
            before = list(plan) if isinstance(plan, list) else None
            self.check_refused(crew, calls, plan)
            if before is not None:
                self.assertEqual(plan, before)
        self.assertEqual((crew, calls, tree), (CREW, CALLS, Tree(TREE)))
        self.assertEqual(planned(tree, crew, calls, [1, 1, 0]), ([(1, 2), (3, 0), (0, 0)], 10))


class SameAnswersTest(unittest.TestCase):
    def test_no_argument_is_changed(self):
        tree, crew, calls, plan = Tree(TREE), list(CREW), list(CALLS), [1, 1, 0]
        first = planned(tree, crew, calls, plan)
        first[0].append(None)
        first[0][0] = None
        self.assertEqual((tree, crew, calls, plan), (Tree(TREE), CREW, CALLS, [1, 1, 0]))
        self.assertEqual(planned(tree, crew, calls, plan), ([(1, 2), (3, 0), (0, 0)], 10))

    def test_an_argument_is_changed_in_place(self):
        tree, crew, calls, plan = Tree(TREE), list(CREW), list(CALLS), [1, 1, 0]
        planned(tree, crew, calls, plan)
        plan[1] = 2
        self.assertEqual(planned(tree, crew, calls, plan), ([(1, 2), (0, 0), (3, 0)], 3 + 5 + 2))
        calls.pop()
        with self.assertRaises(InvalidPlan):
            planned(tree, crew, calls, plan)
        plan.pop()
        self.assertEqual(planned(tree, crew, calls, plan), ([(1, 0), (0, 0), (3, 0)], 3 + 5))
        crew.pop()
        with self.assertRaises(InvalidPlan):
            planned(tree, crew, calls, plan)


if __name__ == "__main__":
    unittest.main()
