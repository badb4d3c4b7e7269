"""Hung trees: points 6 and 5 (i)."""

import unittest

from bothcome.crews import apart, cover, spread
from bothcome.trees import Tree
from tests.model import BIG, SMALL_TREES, all_points, hung_place, hung_roads, is_same


class HungTest(unittest.TestCase):
    def test_by_hand(self):
        tree = Tree([(0, 4), (0, 3), (2, 2)])
        self.assertTrue(is_same(tree.hung(0).roads, [(0, 4), (0, 3), (2, 2)]))
        self.assertTrue(is_same(tree.hung(1).roads, [(0, 4), (1, 3), (2, 2)]))
        self.assertTrue(is_same(tree.hung(2).roads, [(0, 3), (0, 2), (1, 4)]))
        self.assertTrue(is_same(tree.hung(3).roads, [(0, 2), (1, 3), (2, 4)]))

    def test_hung_at_the_root_it_may_have_other_numbers(self):
        tree = Tree([(0, 1), (1, 2), (0, 3)])
        self.assertEqual(tree.hung(0).roads, [(0, 1), (0, 3), (1, 2)])
        self.assertTrue(is_same(tree.hung_point(0, (3, 2)), (2, 2)))
        self.assertTrue(is_same(tree.hung_point(0, (2, 1)), (3, 1)))

    def test_the_elder_numbers_decide_among_nodes_equally_many_roads_away(self):
        tree = Tree([(0, 1), (0, 2), (2, 3), (1, 4), (0, 5)])
        self.assertEqual(tree.hung(0).roads, [(0, 1), (0, 2), (0, 5), (2, 3), (1, 4)])
        self.assertEqual(tree.hung(2).roads, [(0, 2), (0, 3), (1, 1), (1, 5), (3, 4)])

    def test_the_number_of_roads_counts_and_not_their_length(self):
        tree = Tree([(0, 40), (0, 1), (2, 1)])
        self.assertEqual(tree.hung(0).roads, [(0, 40), (0, 1), (2, 1)])
        self.assertEqual(tree.hung(3).roads, [(0, 1), (1, 1), (2, 40)])

    def test_roads_that_are_turned_over(self):
        tree = Tree([(0, 4), (0, 3), (2, 2)])
        self.assertEqual(tree.hung_point(3, (3, 0)), (0, 0))
        self.assertTrue(is_same(tree.hung_point(3, (3, 1)), (1, 1)))
        self.assertTrue(is_same(tree.hung_point(3, (2, 1)), (2, 2)))
        self.assertTrue(is_same(tree.hung_point(3, (2, 2)), (2, 1)))
        self.assertEqual(tree.hung_point(3, (0, 0)), (2, 0))
        self.assertTrue(is_same(tree.hung_point(3, (1, 3)), (3, 3)))

    def test_the_root_alone(self):
        self.assertEqual(Tree([]).hung(0), Tree([]))
        self.assertEqual(Tree([]).hung_point(0, (0, 0)), (0, 0))

    def test_all_nodes_of_small_trees(self):
        for roads in SMALL_TREES:
            for node in range(len(roads) + 1):
                self.check_hung(roads, node)

    def check_hung(self, roads, node):
        """Check the tree hung at a node, and return it."""
        tree = Tree(roads)
        hung = tree.hung(node)
        self.assertIs(type(hung), Tree)
        self.assertTrue(is_same(hung.roads, hung_roads(roads, node)[0]), (roads, node))
        self.assertEqual(tree.roads, roads)
        places = {point: tree.hung_point(node, point) for point in all_points(roads)}
        for point, place in places.items():
            self.assertTrue(is_same(place, hung_place(roads, node, point)), (roads, node, point))
        self.assertEqual(sorted(places.values()), sorted(all_points(hung.roads)))
        for one in places:
            for other in places:
                self.assertEqual(hung.distance(places[one], places[other]), tree.distance(one, other))
        return hung

    def test_hung_again_and_again(self):
        roads = SMALL_TREES[-1]
        for node in (5, 0, 9, 3, 3, 7, 0, 0, 1):
            roads = self.check_hung(roads, node).roads

    def test_long_roads(self):
        tree = Tree([(0, BIG), (1, 10 ** 29), (0, 1)])
        self.assertEqual(tree.hung(2).roads, [(0, 10 ** 29), (1, BIG), (2, 1)])
        self.assertEqual(tree.hung_point(2, (1, 5)), (2, BIG - 5))
        self.assertEqual(tree.hung_point(2, (2, 10 ** 29 - 1)), (1, 1))
        self.assertEqual(tree.hung_point(2, (3, 0)), (3, 0))

    def test_the_same_call_gives_the_same_tree_with_other_calls_between(self):
        tree = Tree([(0, 4), (0, 3), (2, 2)])
        other = Tree([(0, 2), (1, 3), (2, 4)])
        for _ in range(2):
            self.assertEqual(tree.hung(3).roads, [(0, 2), (1, 3), (2, 4)])
            self.assertEqual(tree.hung_point(3, (3, 1)), (1, 1))
            self.assertEqual(other.hung(3).roads, [(0, 4), (1, 3), (2, 2)])
            self.assertEqual(other.hung_point(3, (3, 1)), (1, 3))
            self.assertEqual(tree.hung(2).roads, [(0, 3), (0, 2), (1, 4)])
            tree.hung(3).roads.clear()

    def test_crews_are_as_far_apart_and_as_spread(self):
        tree = Tree(SMALL_TREES[-1])
        crews = [[(5, 1), (7, 0), (8, 2)], [(9, 0), (5, 0), (0, 0)], [(3, 1), (3, 1), (6, 0)]]
        for node in range(len(tree)):
            hung = tree.hung(node)
            moved = [[tree.hung_point(node, point) for point in crew] for crew in crews]
            for crew, there in zip(crews, moved):
                self.assertEqual(spread(hung, there), spread(tree, crew))
            for i, k in ((0, 1), (1, 2), (2, 0)):
                self.assertEqual(apart(hung, moved[i], moved[k]), apart(tree, crews[i], crews[k]))
                many = sum(step[2] for step in cover(hung, moved[i], moved[k]))
                self.assertEqual(many, apart(tree, crews[i], crews[k]))


if __name__ == "__main__":
    unittest.main()
