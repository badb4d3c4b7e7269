"""Points 1 and 5 over the whole program: from texts to papers, in hung trees and with nodes more on roads."""

import unittest
from random import Random

from bothcome.best import best_plan, best_way, works
from bothcome.console import Console
from bothcome.crews import apart, cover, matching, spread
from bothcome.factors import is_numbers, least_factor, numbers, ring
from bothcome.errors import TooMany
from bothcome.nearest import beyond
from bothcome.papers import is_paper, paper, potential
from bothcome.plans import planned
from bothcome.rivals import best_rival, rivals
from bothcome.rules import Both, Nearest, lead, run, seers, who_came
from bothcome.texts import read_points, read_tree, show_points, show_tree
from bothcome.trees import Tree
from bothcome.watches import Watch
from tests.model import SMALL_TREES, all_points, subdivided

RULES = [Both(), Nearest()]
EXAMPLE = "0:4 0:3 2:2", "1.0 2.0 3.0", "0.0 3.1 1.2 0.0 2.0 1.0 0.0 3.0"


def drawn_texts(seed, times):
    """Texts of trees, of crews, of other crews and of eight calls."""
    draw = Random(seed)
    yield (*EXAMPLE[:2], "0.0 0.0 3.0", EXAMPLE[2])
    for roads in SMALL_TREES:
        points = all_points(roads)
        for _ in range(times):
            many = draw.randrange(1, 4)
            drawn = [[draw.choice(points) for _ in range(size)] for size in (many, many, 8)]
            yield (show_tree(Tree(roads)), *map(show_points, drawn))


class TextsToPapersTest(unittest.TestCase):
    def test_ways_papers_plans_and_works(self):
        for tree_text, *texts in drawn_texts(130, 6):
            self.check_case(read_tree(tree_text), *map(read_points, texts))

    def check_case(self, tree, crew, other, calls):
        self.assertEqual(apart(tree, crew, other), sum(step[2] for step in cover(tree, crew, other)))
        pairs = enumerate(matching(tree, crew, other))
        self.assertEqual(apart(tree, crew, other), sum(tree.distance(crew[i], other[k]) for i, k in pairs))
        for start in (crew, other):
            self.check_bound(tree, crew, start, calls)
        for rule in RULES:
            self.check_watch(tree, crew, rule, calls)
            # No way of a rule is less than the least one that ends where the rule's helpers end.
            now, way = run(tree, rule, crew, calls)
            self.assertGreaterEqual(way, works(tree, crew, calls, now))
            self.assertGreaterEqual(works(tree, crew, calls, now), best_way(tree, crew, calls))

    def check_bound(self, tree, crew, start, calls):
        """Check the way of Both by the best plan from another crew, and by its paper."""
        plan = best_plan(tree, start, calls)
        ends, plan_way = planned(tree, start, calls, plan)
        self.assertEqual(plan_way, best_way(tree, start, calls))
        self.assertEqual(plan_way, works(tree, start, calls, ends))
        rows = paper(tree, crew, start, calls, plan)
        self.assertIs(is_paper(tree, crew, start, calls, plan, rows), True)
        now, way = run(tree, Both(), crew, calls)
        self.assertEqual((sum(row[2] for row in rows), sum(row[0] for row in rows)), (way, plan_way))
        self.assertEqual(rows[-1][3], potential(tree, now, ends))
        bound = len(crew) * plan_way + potential(tree, crew, start) - potential(tree, now, ends)
        self.assertLessEqual(way, bound)

    def check_watch(self, tree, crew, rule, calls):
        watch, now = Watch(tree, crew, rule), crew
        for number, call in enumerate(calls):
            now = lead(tree, rule, now, call)[0]
            self.assertEqual(watch.call(call), who_came(now, call))
            self.assertEqual((watch.crew, watch.way), run(tree, rule, crew, calls[:number + 1]))
        watch.back(count=3)
        self.assertEqual((watch.crew, watch.way, list(watch)), (*run(tree, rule, crew, calls[:-3]), calls[:-3]))

    def test_the_console_answers_as_the_functions_do(self):
        for tree_text, crew_text, other_text, calls_text in drawn_texts(131, 3):
            tree, crew, calls = read_tree(tree_text), read_points(crew_text), read_points(calls_text)
            console = Console()
            self.assertEqual(console.execute("tree " + tree_text), "ok")
            for word, rule in (("both", Both()), ("nearest", Nearest())):
                self.assertEqual(console.execute(f"watch {word} {crew_text}"), "ok")
                for call in calls_text.split(" "):
                    console.execute("call " + call)
                now, way = run(tree, rule, crew, calls)
                self.assertEqual(console.execute("crew"), show_points(now))
                self.assertEqual(console.execute("calls"), calls_text)
                self.assertEqual(console.execute("way"), str(way))
                self.assertEqual(console.execute("best"), str(best_way(tree, crew, calls)))
                wanted = apart(tree, now, read_points(other_text))
                self.assertEqual(console.execute("apart " + other_text), str(wanted))

    def test_no_rule_keeps_less_than_as_many_as_there_are_helpers(self):
        """The best rival's way and the rule's way come as near to the factor k as one likes."""
        draw = Random(132)
        for roads in SMALL_TREES[3:]:
            tree, points = Tree(roads), all_points(roads)
            for many in range(1, min(4, len(points) - 1) + 1):
                places = draw.sample(points, many + 1)
                for rule in RULES:
                    calls = rivals(tree, rule, places[:-1], places, 60)[0]
                    number, least = best_rival(tree, rule, places[:-1], places, 60)
                    first = sum(tree.distance(helper, calls[0]) for helper in places[:-1])
                    self.assertLessEqual(many * least, first + run(tree, rule, places[:-1], calls)[1])
                    if many < 4:
                        self.assertLessEqual(best_way(tree, places[:-1], calls[:8]), least)


def answers(tree, moved, crew, other, calls, plan, places):
    """All answers that do not depend on the numbers of nodes; moved takes points to the tree's own."""
    crew, other, calls, places = ([moved(point) for point in points] for points in (crew, other, calls, places))
    told = [
        [tree.distance(one, far) for one in crew + calls for far in places + other],
        [tree.on_way(call, one, far) for call in calls for one in crew for far in other],
        spread(tree, crew), apart(tree, crew, other), potential(tree, crew, other),
        [seers(tree, crew, call) for call in calls],
        planned(tree, other, calls, plan)[1], paper(tree, crew, other, calls, plan),
        best_way(tree, crew, calls), best_plan(tree, crew, calls), works(tree, crew, calls, other),
    ]
    for rule in RULES:
        now, way = run(tree, rule, crew, calls)
        watch = Watch(tree, crew, rule)
        told += [way, spread(tree, now), [watch.call(call) for call in calls], watch.way]
        told.append(best_rival(tree, rule, places[:-1], places, 9))
        told.append(rivals(tree, rule, places[:-1], places, 9)[1:])
        told += factor_answers(tree, rule, crew, places)
    return told


def factor_answers(tree, rule, crew, places):
    here = [places[number % len(places)] for number in range(len(crew))]
    try:
        least = least_factor(tree, places, here, rule)
    except TooMany:
        return ["too many"]
    told = [least]
    for factor in ((0, 1), (1, 1), (3, 2), (3, 1)):
        items = numbers(tree, places, here, rule, factor)
        told.append((ring(tree, places, here, rule, factor) is None, items is None))
        if items is not None:
            told.append((len(items), is_numbers(tree, places, here, rule, factor, items)))
    return told


class OtherTreesTest(unittest.TestCase):
    def cases(self, seed):
        draw = Random(seed)
        for roads in SMALL_TREES[2:]:
            points = all_points(roads)
            many = draw.randrange(1, 4)
            crew, other = ([draw.choice(points) for _ in range(many)] for _ in range(2))
            calls = [draw.choice(points) for _ in range(5)]
            plan = [draw.randrange(many) for _ in calls]
            places = draw.sample(points, min(len(points), draw.randrange(2, 5)))
            yield roads, (crew, other, calls, plan, places)

    def test_hung_trees_give_the_same_answers(self):
        for roads, asked in self.cases(133):
            tree = Tree(roads)
            wanted = answers(tree, lambda point: point, *asked)
            for node in range(len(tree)):
                told = answers(tree.hung(node), lambda point: tree.hung_point(node, point), *asked)
                self.assertEqual(told, wanted, (roads, node))

    def test_trees_with_a_node_more_on_a_road_give_the_same_answers(self):
        for roads, asked in self.cases(134):
            wanted = answers(Tree(roads), lambda point: point, *asked)
            for at, (_, length) in enumerate(roads, 1):
                for up in range(1, length):
                    new, moved = subdivided(roads, at, up)
                    self.assertEqual(answers(Tree(new), moved, *asked), wanted, (roads, at, up))

    def test_nearest_keeps_no_factor_in_any_of_them(self):
        for roads, _ in self.cases(135):
            tree = Tree(roads)
            for node in range(len(tree)):
                crew, calls, plan = beyond(tree.hung(node), 3, 4, 5)
                way = run(tree.hung(node), Nearest(), crew, calls)[1]
                self.assertGreater(way, 4 * planned(tree.hung(node), crew, calls, plan)[1] + 5)


if __name__ == "__main__":
    unittest.main()
