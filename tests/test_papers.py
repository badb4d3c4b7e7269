"""Points 11 and 5 (c), 5 (i), and bothcome/papers.py; points 2, 3 and 4 as far as they go here."""

import unittest
from itertools import product
from random import Random

from bothcome.errors import InvalidPlan
from bothcome.papers import is_paper, paper, potential
from bothcome.plans import planned
from bothcome.rules import Both, run
from bothcome.trees import Tree
from tests.model import BIG, SMALL_TREES, Ways, all_points, is_same
from tests.test_plans import NO_PLANS, plans_with_one_bad_number

TREE = [(0, 4), (0, 3), (2, 2)]
CREW = [(1, 0), (2, 0)]
OTHER = [(0, 0), (3, 0)]
CALLS = [(0, 0), (1, 3), (3, 1)]
PLAN = [1, 1, 0]
# The plan goes 5, 1 and 4; the rule goes 3 + 3, 0 and 4.
PAPER = [(5, 2 * 7 + 7, 6, 2 * 1 + 1), (1, 2 * 0 + 1, 0, 2 * 0 + 1), (4, 2 * 4 + 1, 4, 2 * 0 + 5)]


def drawn(draw, roads, many, many_calls):
    """A crew, another one, calls and a plan for them."""
    points = all_points(roads)
    crew, other = ([draw.choice(points) for _ in range(many)] for _ in range(2))
    calls = [draw.choice(points) for _ in range(many_calls)]
    return crew, other, calls, [draw.randrange(many) for _ in calls]


class PotentialTest(unittest.TestCase):
    def test_by_hand(self):
        tree = Tree(TREE)
        self.assertTrue(is_same(potential(tree, [(1, 0)], [(3, 0)]), 9))
        self.assertTrue(is_same(potential(tree, CREW, OTHER), 2 * 6 + 7))
        self.assertTrue(is_same(potential(tree, [(1, 0), (1, 0), (2, 0)], [(0, 0)] * 3), 3 * 11 + 14))
        self.assertTrue(is_same(potential(tree, [(2, 0)] * 4, [(3, 0)] * 4), 4 * 8))
        self.assertTrue(is_same(potential(Tree([]), [(0, 0)] * 3, [(0, 0)] * 3), 0))

    def test_the_spread_is_that_of_the_first_crew_alone(self):
        tree = Tree(TREE)
        self.assertEqual(potential(tree, OTHER, CREW), 2 * 6 + 5)
        self.assertEqual(potential(tree, CREW, CREW), 7)
        self.assertEqual(potential(tree, [(1, 0), (1, 0)], CREW), 2 * 7)
        self.assertEqual(potential(tree, CREW, [(1, 0), (1, 0)]), 2 * 7 + 7)

    def test_against_the_walked_ways(self):
        draw = Random(12)
        for roads in SMALL_TREES:
            tree, ways = Tree(roads), Ways(roads)
            for many in (1, 2, 2, 3, 3, 4, 4, 4):
                crew, other = drawn(draw, roads, many, 0)[:2]
                self.assertTrue(is_same(potential(tree, crew, other), ways.potential(crew, other)), (roads, crew, other))

    def test_long_roads(self):
        tree = Tree([(0, BIG), (0, 10 ** 29)])
        crew, other = [(1, 0), (2, 0), (1, 1)], [(0, 0), (1, BIG - 1), (2, 3)]
        wanted = 3 * (BIG + BIG - 2 + 3) + (2 * BIG - 1 + 2 * 10 ** 29 + 1)
        self.assertTrue(is_same(potential(tree, crew, other), wanted))


class PaperTest(unittest.TestCase):
    def test_by_hand(self):
        self.assertTrue(is_same(paper(Tree(TREE), CREW, OTHER, CALLS, PLAN), PAPER))
        self.assertTrue(is_same(paper(Tree(TREE), CREW, OTHER, CALLS[:1], PLAN[:1]), PAPER[:1]))

    def test_one_helper(self):
        tree = Tree(TREE)
        rows = paper(tree, [(1, 0)], [(3, 0)], [(0, 0), (2, 1)], [0, 0])
        self.assertTrue(is_same(rows, [(5, 4, 4, 0), (2, 2, 2, 0)]))
        self.assertTrue(is_same(paper(Tree([]), [(0, 0)], [(0, 0)], [(0, 0)] * 2, [0, 0]), [(0, 0, 0, 0)] * 2))

    def test_no_calls(self):
        for many in (1, 2, 3, 4):
            self.assertTrue(is_same(paper(Tree(TREE), [(1, 0)] * many, [(2, 0)] * many, [], []), []))

    def test_against_single_steps(self):
        draw = Random(13)
        for roads in SMALL_TREES:
            tree, ways = Tree(roads), Ways(roads)
            for many in (1, 2, 3, 3, 4, 4):
                for many_calls in (1, 2, 6):
                    crew, other, calls, plan = drawn(draw, roads, many, many_calls)
                    rows = ways.paper(crew, other, calls, plan)
                    self.assertTrue(is_same(paper(tree, crew, other, calls, plan), rows), (roads, crew, other, calls))

    def test_forty_calls(self):
        draw = Random(14)
        crew, other, calls, plan = drawn(draw, SMALL_TREES[-1], 4, 40)
        rows = Ways(SMALL_TREES[-1]).paper(crew, other, calls, plan)
        self.assertTrue(is_same(paper(Tree(SMALL_TREES[-1]), crew, other, calls, plan), rows))

    def test_long_roads(self):
        draw = Random(15)
        for roads in SMALL_TREES:
            tree = Tree([(parent, length * BIG) for parent, length in roads])
            crew, other, calls, plan = drawn(draw, roads, 3, 4)
            rows = Ways(roads).paper(crew, other, calls, plan)
            rows = [tuple(part * BIG for part in row) for row in rows]
            crew, other, calls = ([(v, up * BIG) for v, up in points] for points in (crew, other, calls))
            self.assertTrue(is_same(paper(tree, crew, other, calls, plan), rows))


class BoundTest(unittest.TestCase):
    def check(self, tree, crew, other, calls, plan):
        """Check what the papers promise, call by call and in all."""
        many = len(crew)
        rows = paper(tree, crew, other, calls, plan)
        self.assertEqual(len(rows), len(calls))
        start = before = potential(tree, crew, other)
        for plan_way, between, rule_way, behind in rows:
            self.assertLessEqual(between, before + many * plan_way)
            self.assertLessEqual(behind, between - rule_way)
            before = behind
        rule_crew, rule_way = run(tree, Both(), crew, calls)
        plan_crew, plan_way = planned(tree, other, calls, plan)
        self.assertEqual((sum(row[2] for row in rows), sum(row[0] for row in rows)), (rule_way, plan_way))
        self.assertEqual(potential(tree, rule_crew, plan_crew), before)
        self.assertLessEqual(rule_way, many * plan_way + start - before)

    def test_drawn_crews_calls_and_plans(self):
        draw = Random(16)
        for roads in SMALL_TREES + [[(0, 40), (0, 1), (1, 39), (2, 40), (2, 2), (0, 17), (6, 40), (6, 3), (8, 25)]]:
            for _ in range(12):
                self.check(Tree(roads), *drawn(draw, roads, draw.choice((1, 2, 3, 4)), draw.choice((1, 5, 12))))

    def test_all_plans_for_some_calls(self):
        tree = Tree(TREE)
        for crew in ([(1, 0), (2, 0), (3, 0)], [(0, 0)] * 3):
            for other in ([(1, 0), (2, 0), (3, 0)], [(0, 0), (1, 2), (1, 2)]):
                for plan in product(range(3), repeat=4):
                    self.check(tree, crew, other, [(0, 0), (3, 1), (1, 3), (2, 0)], list(plan))

    def test_a_tree_hung_at_another_node(self):
        draw = Random(18)
        for roads in SMALL_TREES:
            tree = Tree(roads)
            for node in range(len(tree)):
                crew, other, calls, plan = drawn(draw, roads, 3, 4)
                rows = paper(tree, crew, other, calls, plan)
                asked = [[tree.hung_point(node, point) for point in points] for points in (crew, other, calls)] + [plan]
                self.assertEqual(paper(tree.hung(node), *asked), rows)
                self.assertIs(is_paper(tree.hung(node), *asked, rows), True)


class IsPaperTest(unittest.TestCase):
    def is_paper(self, items):
        return is_paper(Tree(TREE), CREW, OTHER, CALLS, PLAN, items)

    def test_the_paper(self):
        self.assertIs(self.is_paper(list(PAPER)), True)
        self.assertIs(self.is_paper(paper(Tree(TREE), CREW, OTHER, CALLS, PLAN)), True)
        self.assertIs(is_paper(Tree(TREE), CREW, OTHER, [], [], []), True)

    def test_one_number_differs(self):
        for at in range(3):
            for part in range(4):
                for change in (-1, 1, 10 ** 30, -(10 ** 30)):
                    row = list(PAPER[at])
                    row[part] += change
                    self.assertIs(self.is_paper(PAPER[:at] + [tuple(row)] + PAPER[at + 1:]), False)

    def test_rows_more_or_less(self):
        for at in range(3):
            self.assertIs(self.is_paper(PAPER[:at] + PAPER[at + 1:]), False)
        for at in range(4):
            for row in PAPER + [(0, 0, 0, 0), (0, 5, 0, 5)]:
                self.assertIs(self.is_paper(PAPER[:at] + [row] + PAPER[at:]), False)
        self.assertIs(self.is_paper([]), False)
        self.assertIs(self.is_paper(PAPER * 2), False)
        self.assertIs(is_paper(Tree(TREE), CREW, OTHER, [], [], [(0, 19, 0, 19)]), False)

    def test_rows_in_another_order(self):
        self.assertIs(self.is_paper(PAPER[::-1]), False)
        self.assertIs(self.is_paper([PAPER[1], PAPER[0], PAPER[2]]), False)

    def test_the_paper_of_other_crews_or_another_plan(self):
        tree = Tree(TREE)
        self.assertIs(self.is_paper(paper(tree, CREW, OTHER, CALLS, [1, 0, 0])), False)
        self.assertIs(self.is_paper(paper(tree, OTHER, CREW, CALLS, PLAN)), False)
        self.assertIs(is_paper(tree, CREW, OTHER, CALLS, [1, 0, 0], PAPER), False)
        self.assertIs(is_paper(tree, OTHER, CREW, CALLS, PLAN, PAPER), False)
        self.assertIs(is_paper(Tree([(0, 4), (0, 3), (2, 3)]), CREW, OTHER, CALLS, PLAN, PAPER), False)

    def test_a_number_that_is_no_integer(self):
        for value in (True, 1.0):
            self.assertIs(self.is_paper([PAPER[0], (value,) + PAPER[1][1:], PAPER[2]]), False)

    def test_drawn_papers(self):
        draw = Random(19)
        for roads in SMALL_TREES[1:]:
            ways = Ways(roads)
            for many in (1, 2, 3, 4):
                crew, other, calls, plan = drawn(draw, roads, many, 5)
                rows = ways.paper(crew, other, calls, plan)
                self.assertIs(is_paper(Tree(roads), crew, other, calls, plan, rows), True)
                at, part = draw.randrange(5), draw.randrange(4)
                rows[at] = tuple(number + (part == k) for k, number in enumerate(rows[at]))
                self.assertIs(is_paper(Tree(roads), crew, other, calls, plan, rows), False)


class InvalidPlanTest(unittest.TestCase):
    def check_refused(self, crew, other, calls, plan):
        tree = Tree(TREE)
        with self.subTest(repr(plan)):
            with self.assertRaises(InvalidPlan):
                paper(tree, crew, other, calls, plan)
            for items in ([], PAPER):
                with self.assertRaises(InvalidPlan):
                    is_paper(tree, crew, other, calls, plan, items)

    def test_values_that_are_no_plan(self):
        crew, other = [(1, 0), (2, 0), (3, 0)], [(0, 0), (1, 2), (2, 0)]
        for plan in NO_PLANS + list(plans_with_one_bad_number()):
            self.check_refused(crew, other, CALLS, plan)

    def test_a_number_equal_to_that_of_the_helpers(self):
        for many in (1, 2, 3, 4):
            crew = [(1, 0)] * many
            self.assertEqual(paper(Tree(TREE), crew, crew, [(1, 0)], [many - 1]), [(0, 0, 0, 0)])
            for number in (many, -1):
                self.check_refused(crew, crew, [(1, 0)], [number])

    def test_only_the_last_number_is_bad(self):
        for bad in (2, -1, None, True):
            self.check_refused(CREW, OTHER, CALLS, [1, 1, bad])

    def test_no_calls(self):
        for plan in [value for value in NO_PLANS if value != []]:
            self.check_refused(CREW, OTHER, [], plan)

    def test_good_plans_are_answered_behind_as_ahead(self):
        self.check_refused(CREW, OTHER, CALLS, [1, 1, 2])
        self.check_refused(CREW, OTHER, CALLS, None)
        self.assertEqual(paper(Tree(TREE), CREW, OTHER, CALLS, PLAN), PAPER)


class SameAnswersTest(unittest.TestCase):
    def test_no_argument_is_changed(self):
        tree, crew, other, calls, plan = Tree(TREE), list(CREW), list(OTHER), list(CALLS), list(PLAN)
        items = list(PAPER)
        potential(tree, crew, other)
        paper(tree, crew, other, calls, plan)
        is_paper(tree, crew, other, calls, plan, items)
        self.assertEqual((tree, crew, other, calls, plan, items), (Tree(TREE), CREW, OTHER, CALLS, PLAN, PAPER))

    def test_a_returned_list_is_changed(self):
        first = paper(Tree(TREE), CREW, OTHER, CALLS, PLAN)
        first[0] = None
        first.append((0, 0, 0, 0))
        self.assertTrue(is_same(paper(Tree(TREE), CREW, OTHER, CALLS, PLAN), PAPER))

    def test_arguments_are_changed_in_place(self):
        tree, crew, other, calls, plan = Tree(TREE), list(CREW), list(OTHER), list(CALLS), list(PLAN)
        ways = Ways(TREE)
        paper(tree, crew, other, calls, plan)
        for change in (crew.reverse, other.reverse, calls.reverse, plan.reverse):
            change()
            self.assertEqual(paper(tree, crew, other, calls, plan), ways.paper(crew, other, calls, plan))
            self.assertEqual(potential(tree, crew, other), ways.potential(crew, other))


if __name__ == "__main__":
    unittest.main()
