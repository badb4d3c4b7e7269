"""Points 12 and 5 (d), and bothcome/rivals.py; points 2, 3 and 4 as far as they go here."""

import unittest
from random import Random

from bothcome.errors import InvalidPlaces, WatchError
from bothcome.plans import planned
from bothcome.rivals import best_rival, rivals
from bothcome.rules import Both, Nearest, run
from bothcome.trees import Tree
from tests.model import BIG, ODD_VALUES, SMALL_TREES, Ways, all_points, is_same

TREE = [(0, 4), (0, 3), (2, 2)]
CREW = [(1, 0), (2, 0)]
PLACES = [(0, 0), (1, 0), (2, 0)]
RULES = [Both(), Nearest()]


def drawn_places(draw, roads, many):
    """Different places, and a crew at all of them but one, both in any order."""
    places = draw.sample(all_points(roads), many + 1)
    return places, draw.sample(places, many)


def cases(seed, times):
    """Trees with all numbers of helpers for which there are places enough."""
    draw = Random(seed)
    for roads in SMALL_TREES:
        for many in range(1, min(4, len(all_points(roads)) - 1) + 1):
            for _ in range(times):
                yield roads, *drawn_places(draw, roads, many)


class RivalsTest(unittest.TestCase):
    def test_one_helper_goes_to_and_fro(self):
        tree = Tree(TREE)
        for rule in RULES:
            result = rivals(tree, rule, [(1, 0)], [(2, 0), (1, 0)], 3)
            self.assertTrue(is_same(result, ([(2, 0), (1, 0), (2, 0)], [[0, 0, 0]], [7, 7, 7])))
            self.assertTrue(is_same(best_rival(tree, rule, [(1, 0)], [(2, 0), (1, 0)], 3), (0, 21)))

    def test_both_by_hand(self):
        # To (0, 0) both go 3, and helper 1 comes; to (2, 0) it goes back. To (0, 0) then comes helper 0,
        # who stands at (1, 3): but its last place is (1, 0), at the distance 4.
        result = rivals(Tree(TREE), Both(), CREW, PLACES, 3)
        self.assertTrue(is_same(result, ([(0, 0), (2, 0), (0, 0)], [[0, 1, 0], [1, 1, 1]], [3, 3, 4])))
        self.assertTrue(is_same(best_rival(Tree(TREE), Both(), CREW, PLACES, 3), (0, 4)))

    def test_a_last_place_need_not_be_where_the_helper_stands(self):
        tree = Tree([(0, 4), (0, 3), (0, 5)])
        crew, places = [(1, 0), (2, 0)], [(1, 0), (2, 0), (3, 0)]
        # Helper 1 is at (0, 0) behind step 3: helper 0 is at (1, 3) then, and stops.
        self.assertEqual(run(tree, Both(), crew, [(3, 0)]), ([(1, 3), (3, 0)], 3 + 8))
        # From there helper 0 comes to (2, 0), 4, and then to (1, 0), 7: helper 1 stops on the road of node 3.
        self.assertEqual(run(tree, Both(), crew, [(3, 0), (2, 0), (1, 0)]), ([(1, 0), (3, 4)], 11 + 5 + 10))
        calls, plans, lasts = rivals(tree, Both(), crew, places, 3)
        self.assertEqual((calls, lasts), ([(3, 0), (2, 0), (1, 0)], [8, 7, 7]))
        self.assertEqual(plans, [[0, 1, 1], [1, 1, 0]])

    def test_nearest_by_hand(self):
        result = rivals(Tree(TREE), Nearest(), CREW, PLACES, 4)
        self.assertTrue(is_same(result, ([(0, 0), (2, 0)] * 2, [[0, 1, 0, 1], [1, 1, 1, 1]], [3] * 4)))
        self.assertTrue(is_same(best_rival(Tree(TREE), Nearest(), CREW, PLACES, 4), (0, 4)))

    def test_one_call(self):
        for rule in RULES:
            calls, plans, lasts = rivals(Tree(TREE), rule, CREW, PLACES, 1)
            self.assertTrue(is_same((calls, plans, lasts), ([(0, 0)], [[0], [1]], [3])))
            self.assertTrue(is_same(best_rival(Tree(TREE), rule, CREW, PLACES, 1), (1, 3)))

    def test_of_equal_ways_the_first_one_is_best(self):
        tree = Tree([(0, 2), (0, 2), (0, 2)])
        for rule in RULES:
            for crew in ([(1, 0), (2, 0), (3, 0)], [(3, 0), (1, 0), (2, 0)]):
                self.assertEqual(best_rival(tree, rule, crew, [(0, 0), (1, 0), (2, 0), (3, 0)], 1), (0, 2))

    def test_by_the_words_of_the_document(self):
        draw = Random(50)
        for roads, places, crew in cases(51, 4):
            ways, many = Ways(roads), draw.choice((1, 2, 3, 7, 15))
            for rule in RULES:
                wanted = ways.rivals(rule, crew, places, many)
                result = rivals(Tree(roads), rule, crew, places, many)
                self.assertTrue(is_same(result, wanted), (roads, rule, crew, places, many))
                gone = [ways.planned(crew, wanted[0], plan)[1] for plan in wanted[1]]
                best = best_rival(Tree(roads), rule, crew, places, many)
                self.assertTrue(is_same(best, (gone.index(min(gone)), min(gone))))


class PromisesTest(unittest.TestCase):
    def check(self, tree, rule, crew, places, many):
        calls, plans, lasts = rivals(tree, rule, crew, places, many)
        self.assertEqual((len(calls), len(plans), len(lasts)), (many, len(crew), many))
        ways = [planned(tree, crew, calls, plan)[1] for plan in plans]
        way = run(tree, rule, crew, calls)[1]
        first = sum(tree.distance(helper, calls[0]) for helper in crew)
        self.assertEqual(sum(ways), first + sum(lasts[:-1]))
        self.assertLessEqual(sum(lasts), way)
        number, least = best_rival(tree, rule, crew, places, many)
        self.assertEqual((number, least), (ways.index(min(ways)), min(ways)))
        self.assertLessEqual(len(crew) * least, first + way)

    def test_all_numbers_of_helpers_and_many_calls(self):
        draw = Random(52)
        for roads, places, crew in cases(53, 3):
            for rule in RULES:
                self.check(Tree(roads), rule, crew, places, draw.randrange(1, 61))

    def test_sixty_calls_on_a_large_tree(self):
        draw = Random(54)
        roads = [(0, 40), (0, 1), (1, 39), (2, 40), (2, 2), (0, 17), (6, 40), (6, 3), (8, 25)]
        for many in (1, 2, 3, 4):
            places, crew = drawn_places(draw, roads, many)
            for rule in RULES:
                self.check(Tree(roads), rule, crew, places, 60)

    def test_long_roads(self):
        for roads, places, crew in cases(55, 1):
            tree = Tree([(parent, length * BIG) for parent, length in roads])
            long_crew, long_places = ([(v, up * BIG) for v, up in points] for points in (crew, places))
            for rule in RULES:
                self.check(tree, rule, long_crew, long_places, 6)
                plans, lasts = rivals(Tree(roads), rule, crew, places, 6)[1:]
                self.assertEqual(rivals(tree, rule, long_crew, long_places, 6)[1], plans)
                self.assertEqual(rivals(tree, rule, long_crew, long_places, 6)[2], [last * BIG for last in lasts])

    def test_a_tree_hung_at_another_node(self):
        draw = Random(56)
        for roads, places, crew in cases(57, 1):
            tree, node = Tree(roads), draw.randrange(len(roads) + 1)
            new_places, new_crew = ([tree.hung_point(node, point) for point in points] for points in (places, crew))
            for rule in RULES:
                calls, plans, lasts = rivals(tree, rule, crew, places, 8)
                new_calls = [tree.hung_point(node, call) for call in calls]
                self.assertEqual(rivals(tree.hung(node), rule, new_crew, new_places, 8), (new_calls, plans, lasts))
                best = best_rival(tree, rule, crew, places, 8)
                self.assertEqual(best_rival(tree.hung(node), rule, new_crew, new_places, 8), best)


class InvalidPlacesTest(unittest.TestCase):
    def check_refused(self, crew, places):
        for rule in RULES:
            for ask in (rivals, best_rival):
                with self.subTest((crew, repr(places), ask)), self.assertRaises(InvalidPlaces):
                    ask(Tree(TREE), rule, crew, places, 3)

    def test_values_that_are_no_list_of_points(self):
        for places in ODD_VALUES + [tuple(PLACES), {place: 1 for place in PLACES}, set(PLACES), iter(PLACES), "000"]:
            self.check_refused(CREW, places)
            if not isinstance(places, list):
                self.check_refused([(0, 0)], places)

    def test_a_value_that_is_no_point(self):
        for bad in ODD_VALUES + [(1, 4), (4, 0), (0, 1), (-1, 0), (1, -1), [0, 0], (0,), (0, 0, 0), (False, 0), (0.0, 0)]:
            for at in range(3):
                self.check_refused(CREW, PLACES[:at] + [bad] + PLACES[at + 1:])
            self.check_refused(CREW, PLACES + [bad])

    def test_a_place_twice_or_more_or_less(self):
        self.check_refused(CREW, [(1, 0), (2, 0), (1, 0)])
        self.check_refused(CREW, PLACES + [(0, 0)])
        self.check_refused(CREW, PLACES + [(3, 0)])
        self.check_refused(CREW, [(1, 0), (2, 0)])
        self.check_refused(CREW, [])
        self.check_refused([(1, 0)], [(1, 0)])
        self.check_refused([(1, 0)], [(1, 0), (1, 0)])
        self.check_refused([(1, 0)], PLACES)

    def test_a_crew_that_does_not_stand_at_different_places(self):
        self.check_refused([(1, 0), (1, 0)], PLACES)
        self.check_refused([(1, 0), (3, 0)], PLACES)
        self.check_refused([(3, 0), (3, 1)], PLACES)
        self.check_refused([(1, 1), (2, 0)], PLACES)
        self.check_refused([(1, 0), (2, 0), (0, 0)], PLACES)
        self.check_refused([(1, 0), (2, 0), (1, 0)], PLACES + [(3, 0)])

    def test_the_root_alone(self):
        for rule in RULES:
            for places in ([(0, 0)], [(0, 0), (0, 0)], []):
                with self.assertRaises(WatchError):
                    rivals(Tree([]), rule, [(0, 0)], places, 1)

    def test_good_places_are_answered_behind_as_ahead(self):
        tree, crew, places = Tree(TREE), list(CREW), list(PLACES)
        first = rivals(tree, Both(), crew, places, 5)
        self.check_refused(crew, places + [(0, 0)])
        self.assertEqual((crew, places), (CREW, PLACES))
        self.assertEqual(rivals(tree, Both(), crew, places, 5), first)


class SameAnswersTest(unittest.TestCase):
    def test_no_argument_is_changed(self):
        for rule in RULES:
            tree, crew, places = Tree(TREE), list(CREW), list(PLACES)
            rivals(tree, rule, crew, places, 9)
            best_rival(tree, rule, crew, places, 9)
            self.assertEqual((tree, crew, places), (Tree(TREE), CREW, PLACES))

    def test_returned_lists_are_changed(self):
        tree = Tree(TREE)
        for rule in RULES:
            wanted = Ways(TREE).rivals(rule, CREW, PLACES, 9)
            for part in range(3):
                result = rivals(tree, rule, CREW, PLACES, 9)
                if part == 1:
                    result[part][0].clear()
                result[part].reverse()
                result[part].pop()
                self.assertTrue(is_same(rivals(tree, rule, CREW, PLACES, 9), wanted))


if __name__ == "__main__":
    unittest.main()
