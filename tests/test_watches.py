"""Point 17 and bothcome/watches.py; points 2, 3 and 4 as far as they go here."""

import unittest
from random import Random

from bothcome.errors import InvalidCrew, InvalidPoint, NothingToUndo
from bothcome.rules import Both, Nearest, run
from bothcome.trees import Tree
from bothcome.watches import Watch
from tests.model import BIG, ODD_VALUES, SMALL_TREES, Ways, all_points, is_same

RULES = [Both(), Nearest()]
TREE = [(0, 4), (0, 3), (2, 2)]
CREW = [(1, 0), (2, 0), (3, 0)]
CALLS = [(0, 0), (3, 1), (1, 2), (1, 2)]
NO_POINTS = ODD_VALUES + [
    (1, 4), (4, 0), (0, 1), (-1, 0), (1, -1), [0, 0], (0,), (0, 0, 0), (False, 0), (0, False), (0.0, 0), (0, 0.0),
    ("0", "0"), "0.0", [(0, 0)], ((0, 0),), (10 ** 30, 0), (1, 10 ** 30),
]


class Checks(unittest.TestCase):
    def check(self, watch, crew, calls, way):
        """Check all that a watch tells."""
        self.assertTrue(is_same(watch.crew, crew))
        self.assertTrue(is_same(watch.calls, calls))
        self.assertTrue(is_same(watch.way, way))
        self.assertTrue(is_same(len(watch), len(calls)))
        self.assertTrue(is_same(list(watch), calls))
        self.assertTrue(is_same([call for call in watch], calls))


class WatchTest(Checks):
    def test_by_hand(self):
        watch = Watch(Tree(TREE), CREW, Both())
        self.check(watch, [(1, 0), (2, 0), (3, 0)], [], 0)
        self.assertTrue(is_same(watch.call((0, 0)), 1))
        self.check(watch, [(1, 3), (0, 0), (3, 0)], [(0, 0)], 6)
        self.assertTrue(is_same(watch.call((3, 1)), 2))
        self.check(watch, [(1, 3), (2, 2), (3, 1)], [(0, 0), (3, 1)], 8)
        watch = Watch(Tree(TREE), CREW, Nearest())
        self.assertTrue(is_same(watch.call((0, 0)), 1))
        self.check(watch, [(1, 0), (0, 0), (3, 0)], [(0, 0)], 3)

    def test_of_several_helpers_at_the_call_the_least_number_came(self):
        for rule in RULES:
            watch = Watch(Tree(TREE), [(0, 0), (2, 0), (2, 0)], rule)
            self.assertEqual(watch.call((2, 0)), 1)
            self.check(watch, [(0, 0), (2, 0), (2, 0)], [(2, 0)], 0)
        # Both helpers come at the same moment.
        watch = Watch(Tree([(0, 3), (0, 3)]), [(2, 0), (1, 0)], Both())
        self.assertEqual(watch.call((0, 0)), 0)
        self.check(watch, [(0, 0), (0, 0)], [(0, 0)], 6)

    def test_drawn_calls_against_single_steps(self):
        draw = Random(100)
        for roads in SMALL_TREES:
            ways, points = Ways(roads), all_points(roads)
            for rule in RULES:
                for many in (1, 2, 4):
                    crew = [draw.choice(points) for _ in range(many)]
                    watch, now, calls, way = Watch(Tree(roads), crew, rule), crew, [], 0
                    for _ in range(8):
                        calls.append(draw.choice(points))
                        now, gone = ways.lead(rule, now, calls[-1])
                        way += gone
                        self.assertTrue(is_same(watch.call(calls[-1]), now.index(calls[-1])))
                        self.check(watch, now, calls, way)

    def test_forty_calls(self):
        draw = Random(101)
        roads = SMALL_TREES[-1]
        calls = [draw.choice(all_points(roads)) for _ in range(40)]
        for rule in RULES:
            watch = Watch(Tree(roads), [(5, 0), (7, 0), (9, 0), (9, 0)], rule)
            for call in calls:
                watch.call(call)
            self.check(watch, *self.told(roads, rule, [(5, 0), (7, 0), (9, 0), (9, 0)], calls))

    def told(self, roads, rule, crew, calls):
        now, way = run(Tree(roads), rule, crew, calls)
        return now, calls, way

    def test_long_roads(self):
        watch = Watch(Tree([(0, BIG), (0, BIG)]), [(1, 0), (2, 1)], Both())
        self.assertEqual(watch.call((0, 0)), 1)
        self.check(watch, [(1, BIG - 1), (0, 0)], [(0, 0)], 2 * BIG - 2)

    def test_iteration_while_another_watch_gets_a_call(self):
        watch, other = (Watch(Tree(TREE), CREW, Both()) for _ in range(2))
        for call in CALLS:
            watch.call(call)
        for number, call in enumerate(watch):
            self.assertEqual(call, CALLS[number])
            other.call(call)
            self.assertEqual(len(other), number + 1)
        self.check(other, watch.crew, watch.calls, watch.way)
        self.assertEqual([(a, b) for a in watch for b in other], [(a, b) for a in CALLS for b in CALLS])


class BackTest(Checks):
    def test_the_last_calls_are_taken_back(self):
        for rule in RULES:
            for left in range(5):
                watch = Watch(Tree(TREE), CREW, rule)
                for call in CALLS:
                    watch.call(call)
                self.assertIsNone(watch.back(count=4 - left))
                now, way = run(Tree(TREE), rule, CREW, CALLS[:left])
                self.check(watch, now, CALLS[:left], way)
                # From here on it goes as if the calls had never come.
                for k in range(left, 4):
                    watch.call(CALLS[3 - k])
                now, way = run(Tree(TREE), rule, CREW, CALLS[:left] + [CALLS[3 - k] for k in range(left, 4)])
                self.check(watch, now, CALLS[:left] + [CALLS[3 - k] for k in range(left, 4)], way)

    def test_without_count_one_call(self):
        watch = Watch(Tree(TREE), CREW, Both())
        for call in CALLS:
            watch.call(call)
        for left in (3, 2, 1, 0):
            self.assertIsNone(watch.back())
            now, way = run(Tree(TREE), Both(), CREW, CALLS[:left])
            self.check(watch, now, CALLS[:left], way)

    def test_count_0_changes_nothing(self):
        watch = Watch(Tree(TREE), CREW, Both())
        self.assertIsNone(watch.back(count=0))
        self.check(watch, CREW, [], 0)
        watch.call((0, 0))
        self.assertIsNone(watch.back(count=0))
        self.check(watch, [(1, 3), (0, 0), (3, 0)], [(0, 0)], 6)

    def test_fewer_calls_than_count(self):
        watch = Watch(Tree(TREE), CREW, Both())
        for count in (1, 2, 10 ** 9):
            with self.assertRaises(NothingToUndo):
                watch.back(count=count)
            self.check(watch, CREW, [], 0)
        with self.assertRaises(NothingToUndo):
            watch.back()
        watch.call((0, 0))
        for count in (2, 3, 10 ** 30):
            with self.assertRaises(NothingToUndo):
                watch.back(count=count)
            self.check(watch, [(1, 3), (0, 0), (3, 0)], [(0, 0)], 6)
        self.assertIsNone(watch.back(count=1))

    def test_count_is_passed_by_its_name(self):
        watch = Watch(Tree(TREE), CREW, Both())
        watch.call((0, 0))
        with self.assertRaises(TypeError):
            watch.back(1)
        self.assertEqual(len(watch), 1)


class ErrorsTest(Checks):
    def test_values_that_are_no_crew(self):
        wrong = ODD_VALUES + [[], (0, 0), ((1, 0), (2, 0)), tuple(CREW), set(CREW), iter(CREW), dict.fromkeys(CREW)]
        for bad in NO_POINTS:
            wrong += [[bad], [(0, 0), bad], [bad, (0, 0)]]
        for crew in wrong:
            for rule in RULES:
                with self.subTest(repr(crew)), self.assertRaises(InvalidCrew):
                    Watch(Tree(TREE), crew, rule)

    def test_values_that_are_no_point(self):
        for rule in RULES:
            watch = Watch(Tree(TREE), CREW, rule)
            for calls in ([], [(0, 0)]):
                for call in calls:
                    watch.call(call)
                now, way = run(Tree(TREE), rule, CREW, calls)
                for point in NO_POINTS:
                    with self.subTest(repr(point)), self.assertRaises(InvalidPoint):
                        watch.call(point)
                    self.check(watch, now, calls, way)


class CopiesTest(Checks):
    def test_the_passed_crew_is_changed(self):
        crew = list(CREW)
        watch = Watch(Tree(TREE), crew, Both())
        crew[0] = (0, 0)
        crew.pop()
        self.check(watch, CREW, [], 0)
        watch.call((0, 0))
        self.check(watch, [(1, 3), (0, 0), (3, 0)], [(0, 0)], 6)
        self.assertEqual(crew, [(0, 0), (2, 0)])
        watch.back()
        self.check(watch, CREW, [], 0)

    def test_returned_lists_are_changed(self):
        watch = Watch(Tree(TREE), CREW, Both())
        for _ in range(2):
            for told in (watch.crew, watch.calls, list(watch)):
                told.append(None)
                told[0] = None
            watch.call((0, 0))
        self.check(watch, [(1, 3), (0, 0), (3, 0)], [(0, 0)] * 2, 6)
        watch.crew.clear()
        watch.calls.clear()
        watch.back(count=2)
        self.check(watch, CREW, [], 0)

    def test_properties_are_not_assigned(self):
        watch = Watch(Tree(TREE), CREW, Both())
        for name in ("crew", "calls", "way"):
            with self.assertRaises(AttributeError):
                setattr(watch, name, 0)
        self.check(watch, CREW, [], 0)

    def test_two_watches_do_not_touch_each_other(self):
        for rule in RULES:
            tree, crew = Tree(TREE), list(CREW)
            one, other = Watch(tree, crew, rule), Watch(tree, crew, rule)
            one.call((0, 0))
            self.check(other, CREW, [], 0)
            other.call((1, 2))
            other.call((2, 0))
            self.check(one, *self.told(rule, [(0, 0)]))
            one.back()
            self.check(one, CREW, [], 0)
            self.check(other, *self.told(rule, [(1, 2), (2, 0)]))
            self.assertEqual((tree, crew), (Tree(TREE), CREW))

    def told(self, rule, calls):
        now, way = run(Tree(TREE), rule, CREW, calls)
        return now, calls, way


if __name__ == "__main__":
    unittest.main()
