"""Points 7 and 8, 5 (b), and bothcome/crews.py; points 2 and 4 as far as they go here."""

import unittest
from itertools import combinations_with_replacement, permutations, product
from random import Random

from bothcome.crews import apart, cover, matching, spread
from bothcome.errors import InvalidCrew
from bothcome.trees import Tree
from tests.model import BIG, ODD_VALUES, SMALL_TREES, Ways, all_points, is_same

TREE = [(0, 4), (0, 3), (2, 2)]
BAD_POINTS = [
    None, 0, 1, True, "00", "", (), (0,), (0, 0, 0), [0, 0], [(0, 0)], ((0, 0), (0, 0)), (0, 1), (0, -1), (-1, 0),
    (4, 0), (1, 4), (1, -1), (3, 2), (True, 0), (0, False), (1, True), (1.0, 0), (1, 0.0), ("1", 0), (1, None), {}, Tree([]),
]
NO_CREWS = ODD_VALUES + [
    [], ((0, 0),), ((0, 0), (1, 0)), (0, 0), (1, 0), {(0, 0)}, {(0, 0): 1}, "00", Tree([]), Tree(TREE), iter([(0, 0)]), [[]], [[(0, 0)]],
]


def crews_with_one_bad_item():
    good = [(1, 0), (3, 1), (0, 0), (2, 2)]
    for many in range(1, 5):
        for at in range(many):
            for bad in BAD_POINTS:
                yield good[:at] + [bad] + good[at + 1:many]


class SpreadTest(unittest.TestCase):
    def test_by_hand(self):
        tree = Tree(TREE)
        self.assertTrue(is_same(spread(tree, [(1, 0)]), 0))
        self.assertTrue(is_same(spread(tree, [(1, 0), (3, 1)]), 8))
        self.assertTrue(is_same(spread(tree, [(1, 0), (3, 1), (0, 0)]), 16))
        self.assertTrue(is_same(spread(tree, [(1, 0), (1, 2), (3, 0), (0, 0)]), 2 + 9 + 4 + 7 + 2 + 5))

    def test_several_at_the_same_point(self):
        tree = Tree(TREE)
        self.assertTrue(is_same(spread(tree, [(1, 2)] * 4), 0))
        self.assertEqual(spread(tree, [(1, 2), (1, 2), (3, 0)]), 14)
        self.assertEqual(spread(tree, [(1, 2), (3, 0), (1, 2), (3, 0)]), 28)
        self.assertEqual(spread(Tree([]), [(0, 0), (0, 0), (0, 0)]), 0)

    def test_against_the_walked_ways(self):
        for roads in SMALL_TREES:
            tree, ways = Tree(roads), Ways(roads)
            draw = Random(3)
            for many in (1, 2, 3, 4, 4, 4):
                crew = [draw.choice(all_points(roads)) for _ in range(many)]
                pairs = sum(ways.distance(a, b) for k, a in enumerate(crew) for b in crew[:k])
                self.assertTrue(is_same(spread(tree, crew), pairs), (roads, crew))
                self.assertEqual(spread(tree, crew[::-1]), pairs)

    def test_a_value_that_is_no_crew_is_refused(self):
        tree = Tree(TREE)
        for value in NO_CREWS + list(crews_with_one_bad_item()):
            with self.subTest(repr(value)), self.assertRaises(InvalidCrew):
                spread(tree, value)
        self.assertEqual(spread(tree, [(1, 0), (3, 1)]), 8)

    def test_long_roads(self):
        tree = Tree([(0, BIG), (0, 1), (1, 10 ** 29)])
        self.assertEqual(spread(tree, [(3, 0), (2, 0), (1, 1)]), 2 * (10 ** 29 + BIG + 1))


class ByHandTest(unittest.TestCase):
    def test_crews_of_two(self):
        tree = Tree(TREE)
        crew, other = [(1, 2), (3, 0)], [(2, 1), (0, 0)]
        self.assertTrue(is_same(apart(tree, crew, other), 5))
        self.assertTrue(is_same(matching(tree, crew, other), [1, 0]))
        steps = [(1, 2, 1), (1, 3, 1), (2, 0, 1), (3, 0, 1), (3, 1, 1)]
        self.assertTrue(is_same(cover(tree, crew, other), steps))

    def test_a_step_that_several_go(self):
        tree = Tree(TREE)
        steps = [(1, 0, 3), (1, 1, 3), (1, 2, 2), (1, 3, 2)]
        crew, other = [(1, 0)] * 3, [(0, 0), (1, 2), (0, 0)]
        self.assertTrue(is_same(cover(tree, crew, other), steps))
        self.assertTrue(is_same(cover(tree, other, crew), steps))
        self.assertTrue(is_same(apart(tree, crew, other), 10))

    def test_helpers_against_each_other_on_one_road(self):
        tree = Tree([(0, 9)])
        self.assertEqual(cover(tree, [(1, 1), (1, 7)], [(1, 3), (1, 5)]), [(1, 1, 1), (1, 2, 1), (1, 5, 1), (1, 6, 1)])
        self.assertEqual(matching(tree, [(1, 1), (1, 7)], [(1, 5), (1, 3)]), [1, 0])

    def test_the_ascending_order_of_the_steps(self):
        tree = Tree([(0, 2), (1, 1), (0, 2), (2, 1)])
        steps = [(1, 0, 1), (1, 1, 1), (2, 0, 1), (3, 0, 1), (3, 1, 1), (4, 0, 1)]
        self.assertEqual(cover(tree, [(3, 0)], [(4, 0)]), steps)
        self.assertEqual(cover(tree, [(4, 0)], [(3, 0)]), steps)

    def test_the_root_alone(self):
        tree = Tree([])
        self.assertTrue(is_same(apart(tree, [(0, 0)] * 3, [(0, 0)] * 3), 0))
        self.assertTrue(is_same(cover(tree, [(0, 0)] * 3, [(0, 0)] * 3), []))
        self.assertEqual(sorted(matching(tree, [(0, 0)] * 3, [(0, 0)] * 3)), [0, 1, 2])

    def test_long_roads(self):
        tree = Tree([(0, BIG), (0, 40), (1, 10 ** 29)])
        crew, other = [(3, 0), (1, 1), (2, 0)], [(0, 0), (2, 39), (1, 3)]
        self.assertEqual(apart(tree, crew, other), 10 ** 29 + BIG + 41)
        self.assertEqual(matching(tree, crew, other)[2], 1)


class AgainstAllPermutationsTest(unittest.TestCase):
    def check(self, tree, ways, crew, other):
        """Check apart, matching and cover of two crews against a search over all."""
        before = list(crew), list(other)
        least = ways.apart(crew, other)
        self.assertTrue(is_same(apart(tree, crew, other), least), (tree.roads, crew, other))
        numbers = matching(tree, crew, other)
        self.assertTrue(is_same(sorted(numbers), list(range(len(crew)))), (tree.roads, crew, other))
        self.assertIs(type(numbers), list)
        self.assertEqual(ways.sum_of(crew, other, numbers), least, (tree.roads, crew, other, numbers))
        steps = cover(tree, crew, other)
        self.assertTrue(is_same(steps, ways.cover(crew, other)), (tree.roads, crew, other))
        self.assertEqual(sum(step[2] for step in steps), least)
        self.assertEqual((crew, other), before)

    def test_all_crews_of_one_and_two_on_small_trees(self):
        for roads in SMALL_TREES[:8]:
            tree, ways = Tree(roads), Ways(roads)
            points = all_points(roads)
            for many in (1, 2) if len(points) < 9 else (1,):
                for crew in product(points, repeat=many):
                    for other in combinations_with_replacement(points, many):
                        self.check(tree, ways, list(crew), list(other))

    def test_drawn_crews_of_one_to_four(self):
        draw = Random(8)
        for roads in SMALL_TREES:
            tree, ways = Tree(roads), Ways(roads)
            points = all_points(roads)
            for many in (1, 2, 2, 3, 3, 3) + (4,) * 14:
                crew = [draw.choice(points) for _ in range(many)]
                other = [draw.choice(points) for _ in range(many)]
                self.check(tree, ways, crew, other)
                self.check(tree, ways, other, crew)

    def test_crews_of_four_with_several_at_the_same_point(self):
        draw = Random(21)
        for roads in SMALL_TREES:
            tree, ways = Tree(roads), Ways(roads)
            few = [draw.choice(all_points(roads)) for _ in range(3)]
            for _ in range(10):
                crew = [draw.choice(few) for _ in range(4)]
                self.check(tree, ways, crew, [draw.choice(few) for _ in range(4)])
                self.check(tree, ways, crew, [few[0]] * 4)
                self.check(tree, ways, [few[1]] * 4, [few[0]] * 4)

    def test_other_orders_of_the_helpers(self):
        roads = SMALL_TREES[-1]
        tree, ways = Tree(roads), Ways(roads)
        crew, other = [(5, 1), (7, 0), (8, 2), (0, 0)], [(9, 0), (5, 0), (3, 1), (3, 1)]
        for order in permutations(crew):
            self.check(tree, ways, list(order), other)
            self.check(tree, ways, other, list(order))
            self.assertEqual(cover(tree, list(order), other), cover(tree, crew, other))

    def test_a_crew_and_itself(self):
        for roads in SMALL_TREES:
            tree, ways = Tree(roads), Ways(roads)
            draw = Random(5)
            for many in (1, 2, 3, 4):
                crew = [draw.choice(all_points(roads)) for _ in range(many)]
                self.check(tree, ways, crew, crew)
                self.assertTrue(is_same(cover(tree, crew, crew), []))
                self.assertTrue(is_same(cover(tree, crew, crew[::-1]), []))
                self.assertTrue(is_same(apart(tree, crew, crew), 0))


def counted_cover(roads, crew, other):
    """The cover, counted for each step by the words of the document."""
    steps = []
    for v, (_, length) in enumerate(roads, 1):
        for up in range(length):
            numbers = [sum(on_side(roads, helper, v, up) for helper in helpers) for helpers in (crew, other)]
            if numbers[0] != numbers[1]:
                steps.append((v, up, max(numbers) - min(numbers)))
    return steps


def on_side(roads, helper, v, up):
    """Whether a helper is in v, below v, or on the road of v at most up from v."""
    node, height = helper
    if node == v:
        return height <= up
    while node > v:
        node = roads[node - 1][0]
    return node == v


def counted_spread(roads, crew):
    """For each step, how many pairs have one helper on each side of it."""
    pairs = 0
    for v, (_, length) in enumerate(roads, 1):
        for up in range(length):
            below = sum(on_side(roads, helper, v, up) for helper in crew)
            pairs += below * (len(crew) - below)
    return pairs


class StepByStepTest(unittest.TestCase):
    LINE = [(node, 40) for node in range(9)]

    def check(self, roads, crew, other):
        tree = Tree(roads)
        steps = counted_cover(roads, crew, other)
        self.assertTrue(is_same(cover(tree, crew, other), steps), (roads, crew, other))
        self.assertTrue(is_same(apart(tree, crew, other), sum(step[2] for step in steps)), (roads, crew, other))
        self.assertTrue(is_same(spread(tree, crew), counted_spread(roads, crew)), (roads, crew))

    def test_a_long_line_of_roads(self):
        crew, other = [(9, 0), (9, 20), (8, 39), (9, 5)], [(9, 1), (8, 20), (7, 39), (9, 7)]
        self.check(self.LINE, crew, other)
        self.check(self.LINE, other, crew)
        self.check(self.LINE, [(9, 0)] * 4, [(0, 0)] * 4)
        self.check(self.LINE, [(9, 0), (0, 0), (5, 39), (5, 39)], [(5, 0), (4, 0), (4, 39), (5, 1)])

    def test_drawn_trees_of_up_to_ten_nodes(self):
        draw = Random(60)
        for many_nodes in list(range(1, 11)) * 6:
            roads = [(draw.randrange(v), draw.choice((1, 2, 7, 40))) for v in range(1, many_nodes)]
            points = all_points(roads)
            for many in (1, 2, 3, 4):
                self.check(roads, *([draw.choice(points) for _ in range(many)] for _ in range(2)))

    def test_drawn_crews_with_several_at_the_same_point(self):
        draw = Random(61)
        for many_nodes in list(range(2, 11)) * 3:
            roads = [(draw.randrange(v), draw.choice((1, 3, 40))) for v in range(1, many_nodes)]
            nodes = [(v, 0) for v in range(many_nodes)]
            few = [draw.choice(nodes), draw.choice(all_points(roads)), (many_nodes - 1, roads[-1][1] - 1)]
            self.check(roads, *([draw.choice(few) for _ in range(4)] for _ in range(2)))
            self.check(roads, [few[0]] * 4, [few[1]] * 4)
            self.check(roads, [few[1]] * 4, [few[1], few[1], few[2], few[2]])

    def test_the_root_alone(self):
        for many in (1, 2, 3, 4):
            self.check([], [(0, 0)] * many, [(0, 0)] * many)

    def test_rows_in_which_a_helper_is_moved_by_single_steps(self):
        draw = Random(62)
        for roads in [self.LINE, [(0, 40), (0, 3), (1, 40), (1, 2), (4, 9)], [(0, 1), (1, 1), (1, 1), (0, 2)]]:
            tree, points = Tree(roads), all_points(roads)
            crew, other = ([draw.choice(points) for _ in range(4)] for _ in range(2))
            for _ in range(12):
                number, goal = draw.randrange(4), draw.choice(points)
                self.check(roads, crew, other)
                crew[number] = tree.towards(crew[number], goal, min(1, tree.distance(crew[number], goal)))
                self.check(roads, crew, other)


class LongRoadsTest(unittest.TestCase):
    def test_short_covers_on_long_roads(self):
        tree = Tree([(0, BIG), (1, BIG), (0, 2)])
        near, far = (1, BIG - 2), (2, BIG - 1)
        self.assertTrue(is_same(cover(tree, [near], [(0, 0)]), [(1, BIG - 2, 1), (1, BIG - 1, 1)]))
        self.assertTrue(is_same(cover(tree, [far, near], [near, (1, 0)]), [(2, BIG - 1, 1)]))
        steps = [(1, BIG - 2, 2), (1, BIG - 1, 2), (3, 0, 1), (3, 1, 1)]
        self.assertTrue(is_same(cover(tree, [(3, 0), far, (0, 0)], [near, near, far]), steps))
        self.assertTrue(is_same(cover(tree, [(2, 0)] * 3 + [(2, 5)], [(2, 0)] * 4), [(2, up, 1) for up in range(5)]))

    def test_roads_that_are_all_longer_by_the_same_factor(self):
        draw = Random(63)
        for roads in SMALL_TREES:
            tree, ways, points = Tree([(parent, length * BIG) for parent, length in roads]), Ways(roads), all_points(roads)
            for many in (1, 2, 3, 4, 4):
                crew, other = ([draw.choice(points) for _ in range(many)] for _ in range(2))
                long_crew, long_other = ([(v, up * BIG) for v, up in helpers] for helpers in (crew, other))
                self.assertTrue(is_same(apart(tree, long_crew, long_other), ways.apart(crew, other) * BIG))
                self.assertTrue(is_same(spread(tree, long_crew), ways.spread(crew) * BIG))
                numbers = matching(tree, long_crew, long_other)
                self.assertEqual(ways.sum_of(crew, other, numbers), ways.apart(crew, other))


class InvalidCrewTest(unittest.TestCase):
    def setUp(self):
        self.tree = Tree(TREE)

    def test_one_of_both_is_no_crew(self):
        good = [(1, 0), (3, 1), (0, 0), (2, 2)]
        for call in (apart, matching, cover):
            for value in NO_CREWS:
                self.check_refused(call, value, [(0, 0)])
                self.check_refused(call, value, good)
            for value in crews_with_one_bad_item():
                self.check_refused(call, value, good[:len(value)])

    def check_refused(self, call, value, good):
        for crew, other in ((value, good), (good, value), (value, value)):
            with self.subTest(call.__name__, crew=repr(crew), other=repr(other)), self.assertRaises(InvalidCrew):
                call(self.tree, crew, other)

    def test_unlike_numbers_of_helpers(self):
        helpers = [(1, 0), (3, 1), (0, 0), (2, 2), (1, 3), (1, 3), (3, 0), (2, 0)]
        for call in (apart, matching, cover):
            for many in range(1, 9):
                for others in range(1, 9):
                    if many != others:
                        with self.subTest(call.__name__, many=many, others=others), self.assertRaises(InvalidCrew):
                            call(self.tree, helpers[:many], helpers[:others])
                        with self.assertRaises(InvalidCrew):
                            call(self.tree, [(0, 0)] * many, [(0, 0)] * others)

    def test_good_calls_are_answered_behind_as_ahead(self):
        crew, other = [(1, 2), (3, 0)], [(2, 1), (0, 0)]
        ahead = [call(self.tree, crew, other) for call in (apart, matching, cover)]
        for call in (apart, matching, cover):
            for bad in (None, [], [(9, 9), (0, 0)], [(0, 0)]):
                with self.assertRaises(InvalidCrew):
                    call(self.tree, crew, bad)
                with self.assertRaises(InvalidCrew):
                    call(self.tree, bad, other)
        self.assertEqual([call(self.tree, crew, other) for call in (apart, matching, cover)], ahead)
        self.assertEqual((crew, other), ([(1, 2), (3, 0)], [(2, 1), (0, 0)]))

    def test_the_refused_lists_stay_as_they_were(self):
        bad = [(1, 0), (9, 0), (0, 0)]
        good = [(2, 0), (1, 1), (3, 1)]
        for call in (apart, matching, cover):
            with self.assertRaises(InvalidCrew):
                call(self.tree, bad, good)
            with self.assertRaises(InvalidCrew):
                call(self.tree, good, bad)
        with self.assertRaises(InvalidCrew):
            spread(self.tree, bad)
        self.assertEqual((bad, good), ([(1, 0), (9, 0), (0, 0)], [(2, 0), (1, 1), (3, 1)]))

    def test_a_crew_of_another_tree_is_judged_by_this_one(self):
        longer = Tree([(0, 5), (0, 3), (2, 2), (1, 1)])
        for point in ((1, 4), (4, 0)):
            self.assertEqual(spread(longer, [point]), 0)
            self.assertEqual(apart(longer, [point], [point]), 0)
            with self.assertRaises(InvalidCrew):
                spread(self.tree, [point])
            for call in (apart, matching, cover):
                with self.assertRaises(InvalidCrew):
                    call(self.tree, [point], [point])


class SameAnswersTest(unittest.TestCase):
    def test_with_other_trees_and_crews_between(self):
        all_roads = [TREE, [(0, 3), (0, 4), (1, 2)], [(0, 4), (1, 3), (2, 2)], [(0, 3), (0, 3), (0, 3)]]
        crews = [[(1, 0), (2, 0)], [(2, 0), (1, 0)], [(3, 1), (2, 1)], [(0, 0), (1, 2)], [(1, 1), (1, 1)]]
        asked = [(Tree(roads), Ways(roads), a, b) for a in crews for b in crews for roads in all_roads]
        first = [self.ask(*one) for one in asked]
        self.assertEqual([self.ask(*one) for one in asked], first)
        self.assertEqual([self.ask(*one) for one in asked[::-1]], first[::-1])

    def ask(self, tree, ways, crew, other):
        numbers = matching(tree, crew, other)
        steps = cover(tree, crew, other)
        self.assertEqual(apart(tree, crew, other), ways.apart(crew, other))
        self.assertEqual(ways.sum_of(crew, other, numbers), ways.apart(crew, other))
        self.assertEqual(steps, ways.cover(crew, other))
        self.assertEqual(spread(tree, crew), ways.distance(crew[0], crew[1]))
        return numbers, steps

    def test_a_returned_list_is_changed(self):
        tree = Tree(TREE)
        crew, other = [(1, 2), (3, 0), (3, 0)], [(2, 1), (0, 0), (2, 1)]
        for call in (matching, cover):
            first = call(tree, crew, other)
            kept = list(first)
            first.reverse()
            first.append(None)
            self.assertEqual(call(tree, crew, other), kept)
            call(tree, crew, other).clear()
            self.assertEqual(call(tree, crew, other), kept)
        empty = cover(tree, crew, crew)
        empty.append((1, 0, 1))
        self.assertEqual(cover(tree, crew, crew), [])
        self.assertEqual(cover(tree, other, other), [])

    def test_a_crew_is_changed_in_place(self):
        tree, ways = Tree(TREE), Ways(TREE)
        crew, other = [(1, 2), (3, 0)], [(2, 1), (0, 0)]
        self.ask(tree, ways, crew, other)
        crew[0] = (3, 1)
        self.ask(tree, ways, crew, other)
        other.reverse()
        self.ask(tree, ways, crew, other)
        crew.append((1, 0))
        self.assertEqual(spread(tree, crew), 1 + 8 + 9)
        for call in (apart, matching, cover):
            with self.assertRaises(InvalidCrew):
                call(tree, crew, other)
        del crew[0]
        self.ask(tree, ways, crew, other)
        crew[1] = (9, 9)
        with self.assertRaises(InvalidCrew):
            spread(tree, crew)
        for call in (apart, matching, cover):
            with self.assertRaises(InvalidCrew):
                call(tree, crew, other)

    def test_no_argument_is_changed(self):
        tree = Tree(TREE)
        crew, other = [(3, 0), (1, 2), (0, 0), (1, 2)], [(2, 1), (0, 0), (3, 1), (1, 0)]
        spread(tree, crew)
        for call in (apart, matching, cover):
            call(tree, crew, other)
            call(tree, crew, crew)
        self.assertEqual(crew, [(3, 0), (1, 2), (0, 0), (1, 2)])
        self.assertEqual(other, [(2, 1), (0, 0), (3, 1), (1, 0)])
        self.assertEqual(tree, Tree(TREE))
        self.assertTrue(is_same(tree.roads, TREE))


if __name__ == "__main__":
    unittest.main()
