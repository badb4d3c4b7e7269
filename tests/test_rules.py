"""Point 9 and bothcome/rules.py; points 2, 3 and 5 (i) as far as they go here."""

import unittest
from itertools import permutations, product
from random import Random

from bothcome.rules import Both, Nearest, lead, run, seers, who_came
from bothcome.trees import Tree
from tests.model import BIG, ODD_VALUES, SMALL_TREES, Ways, all_points, is_same

TREE = [(0, 4), (0, 3), (2, 2)]
STAR = [(0, 4), (0, 3), (0, 5), (0, 3)]
# Helpers on 3, 4 and 5 meet at node 2, then at node 1, on their way to the root.
FORKS = [(0, 6), (1, 2), (2, 4), (2, 3), (1, 4)]
RULES = [Nearest(), Both()]


def walked_leads(ways, crew, call):
    """Each rule with what it does in the model, in which all go single steps."""
    return [(Both(), ways.lead_both(crew, call)), (Nearest(), ways.lead_nearest(crew, call))]


def drawn_crew(draw, points, many):
    return [draw.choice(points) for _ in range(many)]


class EqualRulesTest(unittest.TestCase):
    def test_the_same_class(self):
        for one, other in ((Nearest(), Nearest()), (Both(), Both())):
            self.assertIs(one == other, True)
            self.assertIs(one != other, False)
            self.assertIs(one == one, True)
            self.assertIs(one != one, False)

    def test_the_other_class(self):
        for one, other in ((Nearest(), Both()), (Both(), Nearest())):
            self.assertIs(one == other, False)
            self.assertIs(one != other, True)

    def test_other_values(self):
        for rule in RULES:
            names = [Nearest, Both, "both", "nearest", "Nearest()", "Both()"]
            for value in ODD_VALUES + names + [[], [rule], (rule,), [(0, 0)], Tree([]), Tree(TREE)]:
                self.assertIs(rule == value, False)
                self.assertIs(value == rule, False)
                self.assertIs(rule != value, True)
                self.assertIs(value != rule, True)


class SeersTest(unittest.TestCase):
    def test_by_hand(self):
        tree = Tree(TREE)
        crew = [(1, 0), (2, 0), (3, 0)]
        self.assertTrue(is_same(seers(tree, crew, (0, 0)), [0, 1]))
        self.assertTrue(is_same(seers(tree, crew, (1, 2)), [0, 1]))
        self.assertTrue(is_same(seers(tree, crew, (3, 1)), [1, 2]))
        self.assertTrue(is_same(seers(tree, crew, (2, 2)), [0, 1]))
        self.assertTrue(is_same(seers(tree, [(3, 0), (1, 0), (2, 1), (1, 1)], (0, 0)), [2, 3]))
        self.assertTrue(is_same(seers(tree, [(1, 0)], (3, 0)), [0]))

    def test_of_helpers_at_the_same_point_only_the_least_number(self):
        tree = Tree(TREE)
        self.assertEqual(seers(tree, [(1, 0), (1, 0)], (0, 0)), [0])
        self.assertEqual(seers(tree, [(1, 0), (2, 0), (1, 0), (2, 0)], (0, 0)), [0, 1])
        self.assertEqual(seers(tree, [(2, 0), (1, 0), (1, 0), (1, 0)], (0, 0)), [0, 1])
        self.assertEqual(seers(tree, [(1, 0), (1, 0), (1, 2), (1, 2)], (0, 0)), [2])

    def test_a_helper_at_the_call(self):
        tree = Tree(TREE)
        self.assertEqual(seers(tree, [(1, 0), (2, 0), (3, 0)], (2, 0)), [1])
        self.assertEqual(seers(tree, [(1, 0), (2, 0), (2, 0), (3, 0)], (2, 0)), [1])
        self.assertEqual(seers(tree, [(0, 0), (0, 0)], (0, 0)), [0])
        self.assertEqual(seers(Tree([]), [(0, 0)] * 4, (0, 0)), [0])

    def test_one_who_is_nearer_but_not_on_the_way_hides_nobody(self):
        tree = Tree(STAR)
        self.assertEqual(seers(tree, [(3, 0), (2, 0), (4, 2)], (1, 0)), [0, 1, 2])
        self.assertEqual(seers(tree, [(3, 0), (2, 0), (4, 2), (0, 0)], (1, 0)), [3])


class NearestTest(unittest.TestCase):
    def check(self, roads, crew, call, wanted):
        self.assertTrue(is_same(lead(Tree(roads), Nearest(), crew, call), wanted), (roads, crew, call))

    def test_by_hand(self):
        self.check(TREE, [(1, 0), (2, 0), (3, 0)], (0, 0), ([(1, 0), (0, 0), (3, 0)], 3))
        self.check(TREE, [(1, 0), (2, 0), (3, 0)], (1, 1), ([(1, 1), (2, 0), (3, 0)], 1))
        self.check(TREE, [(1, 0), (0, 0)], (3, 1), ([(1, 0), (3, 1)], 4))
        self.check(TREE, [(3, 0)], (1, 0), ([(1, 0)], 9))

    def test_equal_distances_send_the_least_number(self):
        self.check(STAR, [(2, 0), (4, 0)], (0, 0), ([(0, 0), (4, 0)], 3))
        self.check(STAR, [(4, 0), (2, 0)], (0, 0), ([(0, 0), (2, 0)], 3))
        self.check(STAR, [(1, 0), (4, 0), (3, 2), (2, 0)], (0, 0), ([(1, 0), (0, 0), (3, 2), (2, 0)], 3))
        self.check(STAR, [(1, 0), (1, 0), (1, 0)], (0, 0), ([(0, 0), (1, 0), (1, 0)], 4))
        self.check(STAR, [(1, 0), (2, 2), (1, 3)], (0, 0), ([(1, 0), (0, 0), (1, 3)], 1))

    def test_a_helper_at_the_call(self):
        self.check(TREE, [(1, 0), (2, 0)], (2, 0), ([(1, 0), (2, 0)], 0))
        self.check(TREE, [(2, 0), (2, 0)], (2, 0), ([(2, 0), (2, 0)], 0))
        self.check([], [(0, 0), (0, 0)], (0, 0), ([(0, 0), (0, 0)], 0))


class BothTest(unittest.TestCase):
    def check(self, roads, crew, call, wanted):
        self.assertTrue(is_same(lead(Tree(roads), Both(), crew, call), wanted), (roads, crew, call))

    def test_the_example_of_the_document(self):
        self.check(TREE, [(1, 0), (2, 0), (3, 0)], (0, 0), ([(1, 3), (0, 0), (3, 0)], 6))

    def test_one_helper_alone(self):
        self.check(TREE, [(3, 0)], (1, 0), ([(1, 0)], 9))
        self.check(TREE, [(1, 1)], (1, 3), ([(1, 3)], 2))
        self.check([], [(0, 0)], (0, 0), ([(0, 0)], 0))

    def test_two_around_the_call_on_one_road(self):
        self.check([(0, 9)], [(1, 0), (0, 0)], (1, 3), ([(1, 3), (1, 6)], 6))
        self.check([(0, 9)], [(1, 0), (0, 0)], (1, 7), ([(1, 2), (1, 7)], 4))
        self.check([(0, 9)], [(0, 0), (1, 0)], (1, 7), ([(1, 7), (1, 2)], 4))

    def test_only_the_least_of_several_at_the_same_point_goes(self):
        self.check(TREE, [(1, 0), (1, 0)], (0, 0), ([(0, 0), (1, 0)], 4))
        self.check(TREE, [(1, 0), (1, 0), (2, 0)], (0, 0), ([(1, 3), (1, 0), (0, 0)], 6))
        self.check(TREE, [(2, 0), (1, 0), (2, 0), (1, 0)], (0, 0), ([(0, 0), (1, 3), (2, 0), (1, 0)], 6))

    def test_a_helper_at_the_call_at_first(self):
        self.check(TREE, [(1, 0), (2, 0), (3, 0)], (2, 0), ([(1, 0), (2, 0), (3, 0)], 0))
        self.check(TREE, [(1, 3), (0, 0), (2, 2)], (0, 0), ([(1, 3), (0, 0), (2, 2)], 0))
        self.check(TREE, [(1, 0), (3, 1), (3, 1)], (3, 1), ([(1, 0), (3, 1), (3, 1)], 0))

    def test_one_stops_when_another_one_comes_between(self):
        self.check(STAR, [(2, 0), (3, 0)], (1, 0), ([(1, 0), (3, 3)], 10))
        self.check(STAR, [(3, 0), (2, 0)], (1, 0), ([(3, 3), (1, 0)], 10))
        self.check(STAR, [(3, 0), (2, 1), (4, 2)], (1, 0), ([(3, 1), (2, 2), (1, 0)], 7))

    def test_one_is_stopped_by_one_who_is_stopped_later(self):
        self.check(FORKS, [(3, 0), (4, 0), (5, 0)], (0, 0), ([(3, 3), (2, 1), (0, 0)], 17))
        self.check(FORKS, [(5, 0), (3, 0), (4, 0)], (0, 0), ([(0, 0), (3, 3), (2, 1)], 17))

    def test_one_is_stopped_by_one_who_stopped_another_one_before(self):
        self.check(FORKS, [(5, 1), (3, 2), (4, 0)], (0, 0), ([(0, 0), (2, 1), (4, 2)], 14))
        self.check(FORKS, [(5, 0), (3, 0), (4, 2)], (0, 0), ([(5, 3), (3, 1), (0, 0)], 13))

    def test_several_come_to_a_fork_at_the_same_moment(self):
        self.check(STAR, [(2, 0), (4, 0)], (1, 0), ([(1, 0), (0, 0)], 10))
        self.check(STAR, [(4, 0), (2, 0)], (1, 0), ([(1, 0), (0, 0)], 10))
        self.check(STAR, [(4, 0), (3, 2), (2, 0)], (1, 0), ([(1, 0), (0, 0), (0, 0)], 13))
        self.check(STAR, [(2, 1), (4, 1), (3, 2)], (1, 0), ([(1, 0), (0, 0), (3, 4)], 6 + 2 + 2))

    def test_several_come_to_the_call_at_the_same_moment(self):
        self.check(STAR, [(2, 0), (4, 0)], (0, 0), ([(0, 0), (0, 0)], 6))
        self.check(STAR, [(1, 1), (2, 0), (3, 2), (4, 0)], (0, 0), ([(0, 0)] * 4, 12))
        self.check([(0, 8)], [(1, 0), (0, 0)], (1, 4), ([(1, 4), (1, 4)], 8))


class AgainstSingleStepsTest(unittest.TestCase):
    def check(self, tree, ways, crew, call):
        """Check lead and seers against a model in which all go single steps."""
        before = list(crew)
        self.assertTrue(is_same(seers(tree, crew, call), ways.seers(crew, call)), (tree.roads, crew, call))
        for rule, wanted in walked_leads(ways, crew, call):
            led = lead(tree, rule, crew, call)
            self.assertTrue(is_same(led, wanted), (tree.roads, rule, crew, call))
            self.assertTrue(is_same(who_came(led[0], call), led[0].index(call)))
        self.assertEqual(crew, before)

    def test_all_crews_of_one_to_three_on_small_trees(self):
        for roads in SMALL_TREES[:6]:
            tree, ways, points = Tree(roads), Ways(roads), all_points(roads)
            for many in (1, 2, 3) if len(points) < 7 else (1, 2):
                for crew in product(points, repeat=many):
                    for call in points:
                        self.check(tree, ways, list(crew), call)

    def test_drawn_crews_of_one_to_four(self):
        draw = Random(9)
        for roads in SMALL_TREES + [STAR, FORKS]:
            tree, ways, points = Tree(roads), Ways(roads), all_points(roads)
            for _ in range(120):
                crew = drawn_crew(draw, points, draw.choice((2, 3, 3, 4, 4, 4)))
                self.check(tree, ways, crew, draw.choice(points))

    def test_all_orders_of_the_helpers(self):
        tree, ways = Tree(FORKS), Ways(FORKS)
        for call in ((0, 0), (1, 0), (3, 0), (5, 2)):
            for crew in permutations([(3, 1), (4, 0), (5, 1), (5, 1)]):
                self.check(tree, ways, list(crew), call)


class WhoCameTest(unittest.TestCase):
    def test_the_least_number_at_the_call(self):
        self.assertTrue(is_same(who_came([(1, 0)], (1, 0)), 0))
        self.assertTrue(is_same(who_came([(1, 0), (2, 0), (3, 0)], (3, 0)), 2))
        self.assertTrue(is_same(who_came([(1, 0), (2, 1), (2, 1)], (2, 1)), 1))
        self.assertTrue(is_same(who_came([(0, 0), (0, 0)], (0, 0)), 0))
        self.assertTrue(is_same(who_came([(0, 1), (1, 0), (0, 0), (0, 0)], (0, 0)), 2))

    def test_behind_a_lead(self):
        tree = Tree(STAR)
        for crew, number in (([(1, 0), (2, 0), (4, 0)], 1), ([(1, 0), (4, 0), (2, 0)], 1), ([(2, 0), (4, 0)], 0)):
            self.assertEqual(who_came(lead(tree, Both(), crew, (0, 0))[0], (0, 0)), number)


class RunTest(unittest.TestCase):
    def test_by_hand(self):
        tree = Tree(TREE)
        crew, calls = [(1, 0), (2, 0)], [(0, 0), (3, 0), (1, 3)]
        # Both: (1, 3) and (0, 0), 6; the second one alone goes 5; the first one is there.
        self.assertTrue(is_same(run(tree, Both(), crew, calls), ([(1, 3), (3, 0)], 11)))
        # Nearest: the second one goes 3, then 5; then the first one goes 3.
        self.assertTrue(is_same(run(tree, Nearest(), crew, calls), ([(1, 3), (3, 0)], 11)))
        self.assertTrue(is_same(run(tree, Both(), crew, calls[:1]), ([(1, 3), (0, 0)], 6)))
        self.assertTrue(is_same(run(tree, Nearest(), crew, calls[:2]), ([(1, 0), (3, 0)], 8)))

    def test_no_calls(self):
        for rule in RULES:
            crew = [(1, 0), (2, 1), (2, 1)]
            led = run(Tree(TREE), rule, crew, [])
            self.assertTrue(is_same(led, ([(1, 0), (2, 1), (2, 1)], 0)))
            led[0].clear()
            self.assertEqual(crew, [(1, 0), (2, 1), (2, 1)])

    def test_many_calls_against_single_steps(self):
        draw = Random(40)
        for roads in SMALL_TREES:
            tree, ways, points = Tree(roads), Ways(roads), all_points(roads)
            for many in (1, 2, 3, 4):
                crew = drawn_crew(draw, points, many)
                calls = drawn_crew(draw, points, 40)
                for rule, led in ((Both(), ways.lead_both), (Nearest(), ways.lead_nearest)):
                    now, gone = crew, 0
                    for call in calls:
                        now, more = led(now, call)
                        gone += more
                    self.assertTrue(is_same(run(tree, rule, crew, calls), (now, gone)), (roads, rule, crew, calls))


class LongRoadsTest(unittest.TestCase):
    def test_roads_that_are_all_longer_by_the_same_factor(self):
        draw = Random(30)
        for roads in SMALL_TREES:
            ways, points = Ways(roads), all_points(roads)
            tree = Tree([(parent, length * BIG) for parent, length in roads])
            for _ in range(40):
                crew, call = drawn_crew(draw, points, 4), draw.choice(points)
                long_crew, long_call = longer(crew), longer([call])[0]
                self.assertEqual(seers(tree, long_crew, long_call), ways.seers(crew, call))
                for rule, (now, gone) in walked_leads(ways, crew, call):
                    self.assertTrue(is_same(lead(tree, rule, long_crew, long_call), (longer(now), gone * BIG)))

    def test_roads_that_are_longer_by_one_step(self):
        tree = Tree([(0, 5), (0, BIG), (0, BIG + 1)])
        self.assertTrue(is_same(lead(tree, Both(), [(3, 0), (2, 0)], (1, 0)), ([(3, BIG), (1, 0)], 2 * BIG + 5)))
        self.assertTrue(is_same(lead(tree, Both(), [(3, 0), (2, 0)], (0, 0)), ([(3, BIG), (0, 0)], 2 * BIG)))
        self.assertTrue(is_same(lead(tree, Both(), [(3, 1), (2, 0)], (1, 0)), ([(1, 0), (0, 0)], 2 * BIG + 5)))
        self.assertTrue(is_same(lead(tree, Nearest(), [(3, 0), (2, 0)], (1, 0)), ([(3, 0), (1, 0)], BIG + 5)))
        self.assertTrue(is_same(lead(tree, Nearest(), [(3, 1), (2, 0)], (1, 0)), ([(1, 0), (2, 0)], BIG + 5)))

    def test_many_calls(self):
        tree = Tree([(0, BIG), (1, BIG), (0, BIG), (3, 10 ** 29)])
        calls = [(2, 0), (4, 0)] * 20
        self.assertEqual(run(tree, Nearest(), [(0, 0)], calls), ([(4, 0)], 2 * BIG + 39 * (3 * BIG + 10 ** 29)))
        # Each of both is before the other one to its own call, and at it from then on.
        self.assertEqual(run(tree, Both(), [(1, 0), (3, 0)], calls), ([(2, 0), (4, 0)], BIG + 10 ** 29))


def longer(points):
    return [(v, up * BIG) for v, up in points]


class HungTest(unittest.TestCase):
    def test_a_tree_hung_at_another_node(self):
        draw = Random(17)
        for roads in SMALL_TREES + [STAR, FORKS]:
            tree = Tree(roads)
            for node in range(len(tree)):
                other = tree.hung(node)
                for _ in range(8):
                    crew = drawn_crew(draw, all_points(roads), draw.choice((1, 2, 3, 4)))
                    calls = drawn_crew(draw, all_points(roads), 3)
                    self.check(tree, other, node, crew, calls)

    def check(self, tree, other, node, crew, calls):
        """Check that both trees give the same answers, in their own numbers."""
        new_crew = [tree.hung_point(node, helper) for helper in crew]
        new_calls = [tree.hung_point(node, call) for call in calls]
        self.assertEqual(seers(other, new_crew, new_calls[0]), seers(tree, crew, calls[0]))
        for rule in RULES:
            now, gone = run(tree, rule, crew, calls)
            new_now = [tree.hung_point(node, helper) for helper in now]
            self.assertEqual(run(other, rule, new_crew, new_calls), (new_now, gone), (tree.roads, node, crew, calls))


class SameAnswersTest(unittest.TestCase):
    def test_with_other_trees_and_crews_between(self):
        crews = [[(1, 0), (2, 0)], [(2, 0), (1, 0)], [(1, 2), (1, 2)], [(0, 0), (2, 1), (3, 0)]]
        asked = [
            (Tree(roads), rule, crew, call)
            for roads in (TREE, STAR, [(0, 3), (1, 3), (2, 3)])
            for crew in crews
            for call in ((0, 0), (1, 1), (3, 0))
            for rule in RULES
        ]
        first = [lead(*one) for one in asked]
        self.assertEqual([lead(*one) for one in asked], first)
        self.assertEqual([lead(*one) for one in asked[::-1]], first[::-1])

    def test_no_argument_is_changed(self):
        for rule in RULES:
            tree = Tree(TREE)
            crew, calls = [(1, 0), (2, 0), (2, 0)], [(0, 0), (3, 0), (1, 3)]
            lead(tree, rule, crew, (0, 0))
            seers(tree, crew, (0, 0))
            who_came(crew, (2, 0))
            run(tree, rule, crew, calls)
            self.assertEqual(crew, [(1, 0), (2, 0), (2, 0)])
            self.assertEqual(calls, [(0, 0), (3, 0), (1, 3)])
            self.assertEqual(tree, Tree(TREE))
            self.assertEqual(rule, type(rule)())

    def test_a_returned_list_is_changed(self):
        tree = Tree(TREE)
        for rule in RULES:
            for call in ((0, 0), (2, 0)):
                crew = [(1, 0), (2, 0)]
                self.check_own(crew, lambda: lead(tree, rule, crew, call)[0])
                self.check_own(crew, lambda: run(tree, rule, crew, [call])[0])
                self.check_own(crew, lambda: seers(tree, crew, call))

    def check_own(self, crew, ask):
        """Check that a returned list is one of its own, which may be changed."""
        kept = list(ask())
        first = ask()
        first.append(None)
        first[0] = None
        self.assertEqual(crew, [(1, 0), (2, 0)])
        self.assertEqual(ask(), kept)

    def test_a_crew_is_changed_in_place(self):
        tree = Tree(TREE)
        crew = [(1, 0), (2, 0)]
        self.assertEqual(lead(tree, Both(), crew, (0, 0)), ([(1, 3), (0, 0)], 6))
        crew[1] = (3, 0)
        self.assertEqual(lead(tree, Both(), crew, (0, 0)), ([(0, 0), (2, 2)], 8))
        crew.append((1, 2))
        self.assertEqual(lead(tree, Both(), crew, (0, 0)), ([(1, 0), (2, 0), (0, 0)], 4))
        self.assertEqual(seers(tree, crew, (0, 0)), [1, 2])


if __name__ == "__main__":
    unittest.main()
