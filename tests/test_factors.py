"""Points 14, 15 and 5 (f), (h), (i), and bothcome/factors.py; points 2, 3 and 4 as far as they go here."""

import unittest
from fractions import Fraction
from random import Random

from bothcome.errors import InvalidFactor, InvalidPlaces, TooMany
from bothcome.factors import is_numbers, least_factor, numbers, ring
from bothcome.rules import Both, Nearest
from bothcome.trees import Tree
from tests.model import BIG, ODD_VALUES, SMALL_TREES, Ways, all_points, is_same, shows

RULES = [Both(), Nearest()]
TREE = [(0, 4), (0, 3), (2, 2)]
PLACES = [(2, 0), (0, 0), (1, 0)]
CREW = [(2, 0), (1, 0)]
# With factor 2 Both is kept; a place between two others breaks all factors of Nearest.
BETWEEN = [(0, 3), (0, 3)], [(1, 0), (0, 0), (2, 0)]
FACTORS = [(0, 1), (1, 1), (3, 2), (2, 1), (4, 2), (5, 2), (99, 50), (100, 49), (100, 1), (1, 100), (100, 100)]
# Roads, places, crew, rule, and how many joint standings can come: 150 are followed, 151 are too many.
JUST_SO_MANY = [
    ([(0, 1), (0, 2), (0, 2), (3, 2)], [(4, 0), (1, 0), (0, 0), (2, 1)], [(1, 0), (1, 0)], Both(), 150),
    ([(0, 1), (1, 2), (1, 1), (2, 1)], [(4, 0), (2, 1), (0, 0), (1, 0), (3, 0)], [(3, 0), (1, 0)], Nearest(), 150),
    ([(0, 2), (1, 1), (1, 2)], [(3, 1), (2, 0), (3, 0), (1, 1)], [(3, 0), (3, 0), (3, 1)], Nearest(), 150),
    ([(0, 3), (1, 2), (2, 4)], [(3, 0), (0, 0), (1, 2)], [(3, 0), (0, 0), (3, 0)], Both(), 149),
]
ONE_TOO_MANY = [
    ([(0, 10), (0, 11)], [(1, 2), (1, 1), (2, 8)], [(1, 2), (1, 1)], Both(), 151),
    ([(0, 9)], [(1, 0), (1, 8), (1, 3), (1, 2), (1, 4)], [(1, 3), (1, 3)], Nearest(), 151),
    ([(0, 2), (1, 2), (2, 2), (3, 4), (3, 5)], [(1, 1), (5, 4), (5, 0), (4, 0)], [(5, 0)] * 3, Nearest(), 151),
]
NO_FACTORS = ODD_VALUES + [
    (1,), (1, 2, 3), [2, 1], [], [1, 1], (True, 1), (1, True), (False, 1), (0, False), (0, 0), (2, 0), (-1, 1), (1, -1),
    (-1, -1), (0, -1), (2.0, 1), (2, 1.0), ("2", 1), (None, 1), (1, None), ((1, 1), 1), "21", {2: 1, 1: 1}, Fraction(2, 1),
]


def cases(seed, times, most=60):
    """Cases in which at most some joint standings can come, with these as the model finds them."""
    draw = Random(seed)
    for roads in SMALL_TREES:
        points, ways = all_points(roads), Ways(roads)
        for _ in range(times):
            places = draw.sample(points, min(len(points), draw.randrange(1, 6)))
            crew = [draw.choice(places) for _ in range(draw.randrange(1, 4))]
            for rule in RULES:
                found = ways.standings(rule, crew, places, most)
                if len(found) <= most:
                    yield ways, places, crew, rule, found


def lists(standing):
    return tuple(list(crew) for crew in standing)


class Checks(unittest.TestCase):
    def check_numbers(self, ways, places, crew, rule, factor, found):
        """Check that a factor is kept, by numbers."""
        tree = Tree(ways.roads)
        items = numbers(tree, places, crew, rule, factor)
        self.assertIs(type(items), list)
        for item in items:
            self.assertTrue(is_same(item, (lists(item[0]), int(item[1]))))
        self.assertEqual(sorted(item[0] for item in items), sorted(lists(standing) for standing in found))
        self.assertTrue(shows(found, factor, items), (ways.roads, places, crew, rule, factor))
        self.assertIs(is_numbers(tree, places, crew, rule, factor, items), True)
        self.assertIsNone(ring(tree, places, crew, rule, factor))

    def check_ring(self, ways, places, crew, rule, factor, found):
        """Check that a factor is not kept, by a ring; return the ways of the rule and of the plan around it."""
        tree = Tree(ways.roads)
        result = ring(tree, places, crew, rule, factor)
        self.assertEqual((type(result), len(result)), (tuple, 3))
        standing, calls, steps = result
        self.assertTrue(is_same(standing, lists(standing)))
        self.assertIn(tuple(tuple(part) for part in standing), found)
        self.assertTrue(is_same((calls, steps), ([tuple(call) for call in calls], [int(number) for number in steps])))
        self.assertEqual(len(calls), len(steps))
        self.assertGreaterEqual(len(calls), 1)
        self.assertTrue(all(call in places for call in calls))
        self.assertTrue(all(0 <= number < len(crew) for number in steps))
        behind, gone, far = ways.around(rule, standing, calls, steps)
        self.assertEqual(behind, standing)
        self.assertGreater(factor[1] * gone, factor[0] * far)
        self.assertIsNone(numbers(tree, places, crew, rule, factor))
        return gone, far

    def check_least(self, ways, places, crew, rule, found):
        """Check the least factor by numbers for it, and by rings for lesser ones."""
        least = least_factor(Tree(ways.roads), places, crew, rule)
        if least is None:
            gone, far = self.check_ring(ways, places, crew, rule, (10 ** 12, 1), found)
            self.assertEqual(far, 0)
            return None
        top, bottom = least
        self.assertTrue(is_same(least, (Fraction(top, bottom).numerator, Fraction(top, bottom).denominator)))
        self.check_numbers(ways, places, crew, rule, least, found)
        if top > 0:
            gone, far = self.check_ring(ways, places, crew, rule, (top * 10 ** 12 - 1, bottom * 10 ** 12), found)
            self.assertEqual(Fraction(gone, far), Fraction(top, bottom))
        return least


class FactorsTest(Checks):
    def test_by_hand(self):
        ways = Ways(TREE)
        found = ways.standings(Both(), CREW, PLACES)
        for factor in ((2, 1), (4, 2), (5, 2), (100, 1)):
            self.check_numbers(ways, PLACES, CREW, Both(), factor, found)
        for factor in ((0, 1), (1, 1), (3, 2), (99, 50), (199, 100)):
            self.check_ring(ways, PLACES, CREW, Both(), factor, found)
        self.assertTrue(is_same(least_factor(Tree(TREE), PLACES, CREW, Both()), (2, 1)))
        self.assertIsNone(least_factor(Tree(TREE), PLACES, CREW, Nearest()))

    def test_one_place(self):
        for roads, place in (([], (0, 0)), (TREE, (1, 2))):
            for rule in RULES:
                for crew in ([place], [place] * 3):
                    for factor in FACTORS:
                        items = numbers(Tree(roads), [place], crew, rule, factor)
                        self.assertTrue(is_same(items, [((crew, crew), items[0][1])]))
                        self.assertIsNone(ring(Tree(roads), [place], crew, rule, factor))
                        for number in (0, 5, -(10 ** 30)):
                            item = ((crew, crew), number)
                            self.assertIs(is_numbers(Tree(roads), [place], crew, rule, factor, [item]), True)
                    self.assertTrue(is_same(least_factor(Tree(roads), [place], crew, rule), (0, 1)))

    def test_one_helper_keeps_the_factor_1_and_no_lesser_one(self):
        for places in (PLACES, PLACES[:2], PLACES + [(3, 1), (1, 3)]):
            for rule in RULES:
                self.assertTrue(is_same(least_factor(Tree(TREE), places, places[:1], rule), (1, 1)))
                self.assertIsNone(numbers(Tree(TREE), places, places[:1], rule, (99, 100)))
                self.assertIsNone(ring(Tree(TREE), places, places[:1], rule, (100, 100)))

    def test_as_many_helpers_as_places_need_no_way_in_the_end(self):
        for crew in ([(1, 0), (0, 0), (2, 0)], [(1, 0), (1, 0), (1, 0)]):
            self.assertTrue(is_same(least_factor(Tree(TREE), PLACES, crew, Both()), (0, 1)))
            self.assertIsNone(ring(Tree(TREE), PLACES, crew, Both(), (0, 1)))
        self.assertTrue(is_same(least_factor(Tree(TREE), PLACES[:2], CREW[:1] * 2, Nearest()), (0, 1)))

    def test_nearest_with_a_place_between_keeps_no_factor(self):
        roads, places = BETWEEN
        found = Ways(roads).standings(Nearest(), [(1, 0), (2, 0)], places)
        self.assertIsNone(least_factor(Tree(roads), places, [(1, 0), (2, 0)], Nearest()))
        for factor in FACTORS + [(10 ** 30, 1)]:
            gone, far = self.check_ring(Ways(roads), places, [(1, 0), (2, 0)], Nearest(), factor, found)
        self.assertEqual(far, 0)
        self.assertGreater(gone, 0)

    def test_drawn_places_and_factors(self):
        draw = Random(60)
        for ways, places, crew, rule, found in cases(61, 6):
            least = self.check_least(ways, places, crew, rule, found)
            for factor in draw.sample(FACTORS, 2) + [(draw.randrange(101), draw.randrange(1, 101))]:
                if least is not None and Fraction(*factor) >= Fraction(*least):
                    self.check_numbers(ways, places, crew, rule, factor, found)
                else:
                    self.check_ring(ways, places, crew, rule, factor, found)

    def test_kept_factors_bound_all_drawn_calls_and_plans(self):
        draw = Random(62)
        for ways, places, crew, rule, found in cases(63, 2, 40):
            factor = least_factor(Tree(ways.roads), places, crew, rule)
            if factor is not None:
                items = numbers(Tree(ways.roads), places, crew, rule, factor)
                c = max(item[1] for item in items) - min(item[1] for item in items)
                for _ in range(5):
                    calls = [draw.choice(places) for _ in range(30)]
                    plan = [draw.randrange(len(crew)) for _ in calls]
                    way = ways.planned(crew, calls, plan)[1]
                    self.assertLessEqual(factor[1] * ways.run(rule, crew, calls)[1], factor[0] * way + c)

    def test_as_many_as_are_followed(self):
        for roads, places, crew, rule, many in JUST_SO_MANY:
            found = Ways(roads).standings(rule, crew, places)
            self.assertEqual(len(found), many)
            self.check_least(Ways(roads), places, crew, rule, found)

    def test_long_roads(self):
        for ways, places, crew, rule, found in cases(64, 1):
            tree = Tree([(parent, length * BIG) for parent, length in ways.roads])
            long_crew, long_places = ([(v, up * BIG) for v, up in points] for points in (crew, places))
            least = least_factor(Tree(ways.roads), places, crew, rule)
            self.assertEqual(least_factor(tree, long_places, long_crew, rule), least)
            if least is not None:
                items = numbers(tree, long_places, long_crew, rule, least)
                self.assertEqual(len(items), len(found))
                self.assertIs(is_numbers(tree, long_places, long_crew, rule, least, items), True)


class WholeTest(Checks):
    def test_more_places_than_helpers(self):
        """Point 5 (h): k + 1 or more places, and a crew at k different ones of them."""
        draw = Random(65)
        for roads in SMALL_TREES[1:]:
            tree, points = Tree(roads), all_points(roads)
            for many, helpers in ((2, 1), (3, 1), (5, 1), (3, 2), (3, 2), (4, 2), (4, 2), (5, 2), (4, 3)):
                if many <= len(points):
                    places = draw.sample(points, many)
                    self.check_bounds(tree, places, draw.sample(places, helpers))

    def check_bounds(self, tree, places, crew):
        for rule in RULES:
            try:
                least = least_factor(tree, places, crew, rule)
            except TooMany:
                continue
            if rule == Both():
                self.assertTrue(is_same(least, (len(crew), 1)), (tree.roads, places, crew))
            elif least is not None:
                self.assertGreaterEqual(least[0], len(crew) * least[1])

    def test_a_tree_hung_at_another_node(self):
        draw = Random(66)
        for ways, places, crew, rule, found in cases(67, 2):
            tree, node = Tree(ways.roads), draw.randrange(len(ways.roads) + 1)
            new_places, new_crew = ([tree.hung_point(node, point) for point in points] for points in (places, crew))
            least = least_factor(tree, places, crew, rule)
            self.assertEqual(least_factor(tree.hung(node), new_places, new_crew, rule), least)
            for factor in ((1, 1), (2, 1), (3, 1)):
                items = numbers(tree, places, crew, rule, factor)
                new_items = numbers(tree.hung(node), new_places, new_crew, rule, factor)
                self.assertEqual(new_items is None, items is None)
                self.assertEqual(ring(tree.hung(node), new_places, new_crew, rule, factor) is None, items is not None)

    def test_the_order_of_places_changes_nothing(self):
        for ways, places, crew, rule, found in cases(68, 2):
            tree = Tree(ways.roads)
            least = least_factor(tree, places, crew, rule)
            self.assertEqual(least_factor(tree, places[::-1], crew, rule), least)
            if least is not None:
                items = numbers(tree, places, crew, rule, least)
                self.assertIs(is_numbers(tree, places[::-1], crew, rule, least, items), True)


class IsNumbersTest(Checks):
    def check(self, found, ways, places, crew, rule, factor, items):
        wanted = shows(found, factor, items)
        before = [(lists(standing), number) for standing, number in items]
        self.assertIs(is_numbers(Tree(ways.roads), places, crew, rule, factor, items), wanted)
        self.assertEqual(items, before)
        return wanted

    def test_any_order_and_moved_integers(self):
        draw = Random(70)
        for case in cases(71, 2):
            ways, places, crew, rule, found = case
            factor = least_factor(Tree(ways.roads), places, crew, rule)
            if factor is not None:
                items = numbers(Tree(ways.roads), places, crew, rule, factor)
                for moved in (1, -1, 10 ** 30, -(10 ** 30)):
                    draw.shuffle(items)
                    new = [(standing, number + moved) for standing, number in items]
                    self.assertTrue(self.check(found, ways, places, crew, rule, factor, new))

    def test_left_out_and_twice(self):
        tree, ways = Tree(TREE), Ways(TREE)
        found = ways.standings(Both(), CREW, PLACES)
        items = numbers(tree, PLACES, CREW, Both(), (2, 1))
        asked = (found, ways, PLACES, CREW, Both(), (2, 1))
        self.assertFalse(self.check(*asked, []))
        for at, (standing, number) in enumerate(items):
            self.assertFalse(self.check(*asked, items[:at] + items[at + 1:]))
            for change in (0, 1, -1):
                again = (standing, number + change)
                self.assertFalse(self.check(*asked, items + [again]))
                self.assertFalse(self.check(*asked, [again] + items))
                other = (at + 1) % len(items)
                self.assertFalse(self.check(*asked, items[:other] + [again] + items[other + 1:]))
        self.assertFalse(self.check(*asked, items * 2))
        self.assertFalse(self.check(*asked, items[:1]))

    def test_an_integer_is_one_too_low_or_too_high(self):
        results = []
        for ways, places, crew, rule, found in cases(72, 2, 30):
            factor = least_factor(Tree(ways.roads), places, crew, rule)
            if factor is not None:
                items = numbers(Tree(ways.roads), places, crew, rule, factor)
                for at, (standing, number) in enumerate(items):
                    for change in (-1, 1, -1000, 1000):
                        new = items[:at] + [(standing, number + change)] + items[at + 1:]
                        results.append(self.check(found, ways, places, crew, rule, factor, new))
        self.assertIn(True, results)
        self.assertIn(False, results)

    def test_an_integer_one_too_low_by_hand(self):
        # One helper on a road of length 3: the plan goes where the rule goes.
        tree, places = Tree([(0, 3)]), [(0, 0), (1, 0)]
        there, here = ([(1, 0)], [(1, 0)]), ([(0, 0)], [(0, 0)])
        for factor, rise in (((1, 1), 0), ((2, 1), -3), ((5, 3), -6)):
            for change in range(-8, 9):
                items = [(there, change), (here, 0)]
                wanted = rise <= change <= -rise
                self.assertIs(is_numbers(tree, places, [(1, 0)], Both(), factor, items), wanted)

    def test_a_number_that_is_no_integer(self):
        tree, places = Tree([(0, 3)]), [(0, 0), (1, 0)]
        there, here = ([(1, 0)], [(1, 0)]), ([(0, 0)], [(0, 0)])
        self.assertIs(is_numbers(tree, places, [(1, 0)], Both(), (2, 1), [(there, 1), (here, 0)]), True)
        for value in (True, 1.0, None):
            self.assertIs(is_numbers(tree, places, [(1, 0)], Both(), (2, 1), [(there, value), (here, 0)]), False)

    def test_a_factor_that_is_not_kept(self):
        tree = Tree(TREE)
        items = numbers(tree, PLACES, CREW, Both(), (2, 1))
        self.assertIs(is_numbers(tree, PLACES, CREW, Both(), (199, 100), items), False)
        self.assertIs(is_numbers(tree, PLACES, CREW, Nearest(), (2, 1), []), False)
        hundredfold = [(standing, 100 * number) for standing, number in items]
        self.assertIs(is_numbers(tree, PLACES, CREW, Both(), (200, 100), hundredfold), True)
        self.assertIs(is_numbers(tree, PLACES, CREW, Both(), (199, 100), hundredfold), False)
        self.assertIs(is_numbers(tree, PLACES, CREW, Both(), (201, 100), hundredfold), True)


class ErrorsTest(unittest.TestCase):
    def asks(self, tree, places, crew, rule, factor):
        return [
            lambda: ring(tree, places, crew, rule, factor),
            lambda: numbers(tree, places, crew, rule, factor),
            lambda: is_numbers(tree, places, crew, rule, factor, []),
            lambda: least_factor(tree, places, crew, rule),
        ]

    def check_refused(self, error, tree, places, crew, rule, factor, many=4):
        for ask in self.asks(tree, places, crew, rule, factor)[:many]:
            with self.subTest((repr(places), crew, repr(factor))), self.assertRaises(error):
                ask()

    def test_places(self):
        tree, good = Tree(TREE), [(2, 0), (0, 0), (1, 0)]
        wrong = ODD_VALUES + [tuple(good), set(good), dict.fromkeys(good), iter(good), [], good + [(0, 0)], good * 2]
        for bad in ODD_VALUES + [(1, 4), (4, 0), (0, 1), (-1, 0), (1, -1), [0, 0], (0,), (0, 0, 0), (False, 0), (0.0, 0)]:
            wrong += [good + [bad], [bad] + good, [bad]]
        for places in wrong:
            for factor in ((2, 1), None):
                self.check_refused(InvalidPlaces, tree, places, [(1, 0), (2, 0)], Both(), factor)

    def test_a_crew_that_does_not_stand_at_places(self):
        for crew in ([(3, 0)], [(1, 0), (3, 0)], [(1, 0), (2, 0), (1, 1)], [(2, 1), (0, 0)]):
            for factor in ((2, 1), (0, 0)):
                self.check_refused(InvalidPlaces, Tree(TREE), PLACES, crew, Nearest(), factor)

    def test_several_helpers_may_stand_at_one_place(self):
        for crew in ([(1, 0)] * 2, [(1, 0), (2, 0), (1, 0)]):
            for ask in self.asks(Tree(TREE), PLACES[1:] + [(2, 0)], crew, Both(), (2, 1)):
                ask()

    def test_factors(self):
        for factor in NO_FACTORS:
            self.check_refused(InvalidFactor, Tree(TREE), PLACES, CREW, Both(), factor, 3)

    def test_factors_come_ahead_of_too_many(self):
        for roads, places, crew, rule, _ in ONE_TOO_MANY:
            self.check_refused(InvalidFactor, Tree(roads), places, crew, rule, (1, 0), 3)
            self.check_refused(InvalidPlaces, Tree(roads), places + places[:1], crew, rule, (1, 0))

    def test_too_many(self):
        for roads, places, crew, rule, many in ONE_TOO_MANY:
            self.assertEqual(len(Ways(roads).standings(rule, crew, places)), many)
            for factor in ((0, 1), (2, 1), (100, 1)):
                self.check_refused(TooMany, Tree(roads), places, crew, rule, factor)

    def test_too_many_exactly_as_the_model_counts(self):
        draw = Random(73)
        for roads in SMALL_TREES:
            points, ways = all_points(roads), Ways(roads)
            for _ in range(4):
                places = draw.sample(points, min(len(points), draw.randrange(3, 6)))
                crew = [draw.choice(places) for _ in range(draw.randrange(2, 4))]
                for rule in RULES:
                    if len(ways.standings(rule, crew, places, 150)) > 150:
                        self.check_refused(TooMany, Tree(roads), places, crew, rule, (2, 1))
                    else:
                        for ask in self.asks(Tree(roads), places, crew, rule, (2, 1)):
                            ask()


class SameAnswersTest(unittest.TestCase):
    def test_no_argument_is_changed(self):
        for rule in RULES:
            tree, places, crew = Tree(TREE), list(PLACES), list(CREW)
            items = numbers(tree, places, crew, Both(), (2, 1))
            kept = [(lists(standing), number) for standing, number in items]
            for factor in ((1, 1), (2, 1)):
                ring(tree, places, crew, rule, factor)
                numbers(tree, places, crew, rule, factor)
                is_numbers(tree, places, crew, rule, factor, items)
            least_factor(tree, places, crew, rule)
            self.assertEqual((tree, places, crew, items), (Tree(TREE), PLACES, CREW, kept))

    def test_returned_values_are_changed(self):
        tree = Tree(TREE)
        kept = [(lists(standing), number) for standing, number in numbers(tree, PLACES, CREW, Both(), (2, 1))]
        first = numbers(tree, PLACES, CREW, Both(), (2, 1))
        first[0][0][0].clear()
        first[1][0][1].clear()
        first.pop()
        self.assertTrue(is_same(numbers(tree, PLACES, CREW, Both(), (2, 1)), kept))
        standing, calls, steps = ring(tree, PLACES, CREW, Both(), (1, 1))
        kept = (lists(standing), list(calls), list(steps))
        for part in (standing[0], standing[1], calls, steps):
            part.clear()
        self.assertTrue(is_same(ring(tree, PLACES, CREW, Both(), (1, 1)), kept))

    def test_with_other_asks_between(self):
        asked = [(Tree(roads), places, crew, rule) for roads, places, crew, rule, _ in JUST_SO_MANY]
        asked += [(Tree(TREE), PLACES, CREW, rule) for rule in RULES]
        first = [(ring(*one, (1, 2)), numbers(*one, (3, 1)), least_factor(*one)) for one in asked]
        again = [(ring(*one, (1, 2)), numbers(*one, (3, 1)), least_factor(*one)) for one in asked[::-1]]
        self.assertTrue(is_same(again, first[::-1]))


if __name__ == "__main__":
    unittest.main()
