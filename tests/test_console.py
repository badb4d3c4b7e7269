"""Point 19 and bothcome/console.py; points 2, 3 and 4 as far as they go here."""

import unittest
from random import Random

from bothcome.best import best_way
from bothcome.console import Console
from bothcome.crews import apart
from bothcome.errors import InvalidCommand, InvalidCrew, InvalidPoint, InvalidText, NotReady, NothingToUndo
from bothcome.rules import Both, Nearest, run
from bothcome.texts import show_points, show_tree
from bothcome.trees import Tree
from tests.model import ODD_VALUES, SMALL_TREES, all_points, is_same

TREE = [(0, 4), (0, 3), (2, 2)]
CREW = [(1, 0), (2, 0), (3, 0)]
PLANT = "tree 0:4 0:3 2:2"
BEGIN = "watch both 1.0 2.0 3.0"
TELLING = ("crew", "calls", "way", "best", "apart 0.0 0.0 0.0", "distance 1.0 3.1")
MANY_DIGITS = "1" * 31
NO_COMMANDS = ODD_VALUES + [
    " ", "  ", "-", "ok", "help", "Tree -", "TREE -", "CREW", "Crew", "crews", "trees", "way ", " way", "way\n", "crew -",
    "crew 0.0", "calls 1", "best 1", "way 0", "crew ", "calls ", "best ", " crew", "tree", "tree ", " tree -", "tree\t-", "tree\n-", "tree-",
    "watch", "watch ", "watch both", "watch both ", "watch nearest", "watch 0.0", "watch both -", "watch nearest -",
    "watch Both 0.0", "watch BOTH 0.0", "watch both  0.0", "watch  both 0.0", "watch both 0.0 ", "watch both 0.0  0.0",
    "watch both 0.0 -", "watch both 0.0,0.0", "watch both both 0.0", "watch 0.0 both", "watch far 0.0", "watch both 0", "watch both 0:0",
    "Watch both 0.0", "watch both 00.0", "watch both 0.00", "watch both 0.0 1", "watch both -1.0", "watch both 0." + MANY_DIGITS,
    "watch both " + MANY_DIGITS + ".0", "watch both 0.0\n", "watch both\n0.0", "watch both \u0660.0", "watchboth 0.0", "watch_both 0.0",
    "call", "call ", "call -", "call 0", "call 0.0 ", "call  0.0", " call 0.0", "call 0.0 0.0", "call 0.0.0", "call 0:0", "call 0,0",
    "call (0, 0)", "call 00.0", "call 0.01.", "call 0.-1", "call +0.0", "call 1e1.0", "call 0.\u0661", "call 0." + MANY_DIGITS,
    "call " + MANY_DIGITS + ".0", "call\t0.0", "Call 0.0", "call 0.0\n", "call0.0",
    "back", "back ", "back -", "back -1", "back +1", "back 01", "back 00", "back 1 ", "back  1", "back 1 1", "back 1.0", "back one",
    "back \u0661", "back \u00b2", "back 1_0", "back " + MANY_DIGITS, "back 0" + "0" * 30, "Back 1", "back 1\n", "back count=1", "back1",
    "apart", "apart ", "apart -", "apart 0", "apart 0.0 ", "apart 0.0  0.0", "apart  0.0", "apart 0.0 -", "apart 0.0 1", "apart both 0.0",
    "apart 0:0", "apart 0.0 " + MANY_DIGITS + ".0", "Apart 0.0", "apart 00.0",
    "distance", "distance ", "distance 0.0", "distance -", "distance - -", "distance 0.0 0.0 0.0", "distance 0.0  0.0",
    "distance  0.0 0.0", "distance 0.0 0.0 ", "distance 0.0 0", "distance 0 0.0", "distance 0:0 0:0", "distance 0.0,0.0",
    "distance 0.0 0.0" + "1" * 31, "distance 00.0 0.0", "Distance 0.0 0.0", "distance 0.0 -0.0", "distance 0.0\t0.0",
    ["way"], ("way",), b"way", [PLANT],
]


def told(*commands):
    """A console that was told some commands."""
    console = Console()
    for command in commands:
        console.execute(command)
    return console


def state(console):
    """All that a console with a watch on the example's tree tells."""
    return [console.execute(command) for command in TELLING]


class ConsoleTest(unittest.TestCase):
    def check(self, console, command, wanted):
        self.assertTrue(is_same(console.execute(command), wanted), command)

    def test_by_hand(self):
        console = Console()
        for command, wanted in (
            (PLANT, "ok"), ("distance 1.0 3.1", "8"), (BEGIN, "ok"), ("crew", "1.0 2.0 3.0"), ("calls", "-"), ("way", "0"),
            ("best", "0"), ("call 0.0", "1"), ("crew", "1.3 0.0 3.0"), ("calls", "0.0"), ("way", "6"), ("best", "3"),
            ("call 3.1", "2"), ("crew", "1.3 2.2 3.1"), ("calls", "0.0 3.1"), ("way", "8"), ("best", "4"),
            ("apart 1.3 2.2 3.1", "0"), ("apart 0.0 0.0 0.0", "6"), ("back 1", "ok"), ("crew", "1.3 0.0 3.0"), ("way", "6"),
            ("back 0", "ok"), ("calls", "0.0"), ("back 1", "ok"), ("calls", "-"), ("crew", "1.0 2.0 3.0"), ("way", "0"),
            ("watch nearest 1.0 2.0", "ok"), ("call 0.0", "1"), ("crew", "1.0 0.0"), ("way", "3"), ("best", "3"),
            ("distance 0.0 0.0", "0"), ("tree -", "ok"), ("distance 0.0 0.0", "0"), ("watch both 0.0 0.0", "ok"),
            ("call 0.0", "0"), ("way", "0"), ("apart 0.0 0.0", "0"), ("best", "0"), ("calls", "0.0"),
        ):
            self.check(console, command, wanted)

    def test_drawn_watches_against_the_functions(self):
        draw = Random(120)
        for roads in SMALL_TREES:
            tree, points = Tree(roads), all_points(roads)
            for word, rule in (("both", Both()), ("nearest", Nearest())):
                crew = [draw.choice(points) for _ in range(draw.randrange(1, 4))]
                console, calls = told("tree " + show_tree(tree), f"watch {word} {show_points(crew)}"), []
                for _ in range(8):
                    calls.append(draw.choice(points))
                    now, way = run(tree, rule, crew, calls)
                    self.check(console, "call " + show_points(calls[-1:]), str(now.index(calls[-1])))
                    self.check(console, "crew", show_points(now))
                    self.check(console, "calls", show_points(calls))
                    self.check(console, "way", str(way))
                    self.check(console, "best", str(best_way(tree, crew, calls)))
                    other = [draw.choice(points) for _ in crew]
                    self.check(console, "apart " + show_points(other), str(apart(tree, now, other)))
                    one, far = draw.choice(points), draw.choice(points)
                    self.check(console, "distance " + show_points([one, far]), str(tree.distance(one, far)))
                    count = draw.randrange(min(3, len(calls)))
                    self.check(console, f"back {count}", "ok")
                    del calls[len(calls) - count:]

    def test_best_is_asked_from_the_crew_with_which_the_watch_began(self):
        console = told(PLANT, "watch both 1.0 2.0", "call 0.0")
        self.check(console, "best", "3")
        console.execute("call 0.0")
        self.check(console, "best", "3")
        console.execute("back 2")
        self.check(console, "best", "0")
        console.execute("watch both 0.0 2.0")
        console.execute("call 0.0")
        self.check(console, "best", "0")

    def test_a_second_tree_ends_the_watch(self):
        for text in ("0:4 0:3 2:2", "-", "0:1"):
            console = told(PLANT, BEGIN, "call 0.0", "tree " + text)
            for command in TELLING[:5] + ("call 0.0", "back 0"):
                with self.assertRaises(NotReady):
                    console.execute(command)
            self.check(console, "distance 0.0 0.0", "0")
            self.check(console, "watch both 0.0", "ok")
            self.check(console, "calls", "-")

    def test_a_second_watch_begins_without_calls(self):
        console = told(PLANT, BEGIN, "call 0.0", "call 1.0", "watch nearest 2.0 2.0")
        self.check(console, "crew", "2.0 2.0")
        self.check(console, "calls", "-")
        self.check(console, "way", "0")
        self.check(console, "best", "0")
        with self.assertRaises(NothingToUndo):
            console.execute("back 1")

    def test_long_integers(self):
        console = told("tree 0:" + "9" * 30, "watch both 1.0")
        self.check(console, "distance 1.0 0.0", "9" * 30)
        self.check(console, "call 1." + "9" * 29 + "8", "0")
        self.check(console, "way", "9" * 29 + "8")
        self.check(console, "best", "9" * 29 + "8")
        self.check(console, "crew", "1." + "9" * 29 + "8")
        self.check(console, "call 0.0", "0")
        self.check(console, "apart 1.0", "9" * 30)

    def test_eight_helpers(self):
        console = told(PLANT, "watch both " + " ".join(["0.0"] * 8))
        self.check(console, "crew", " ".join(["0.0"] * 8))
        self.check(console, "apart " + " ".join(["1.0"] * 8), "32")
        for many in (1, 4, 7, 9):
            with self.assertRaises(InvalidCrew):
                console.execute("apart " + " ".join(["1.0"] * many))

    def test_two_consoles_do_not_touch_each_other(self):
        one, other = told(PLANT, BEGIN), Console()
        with self.assertRaises(NotReady):
            other.execute("distance 0.0 0.0")
        other.execute("tree 0:1")
        other.execute("watch nearest 0.0")
        one.execute("call 0.0")
        other.execute("call 1.0")
        self.check(one, "calls", "0.0")
        self.check(other, "calls", "1.0")
        self.check(one, "crew", "1.3 0.0 3.0")
        self.check(other, "crew", "1.0")
        other.execute("tree -")
        self.check(one, "way", "6")


class ErrorsTest(unittest.TestCase):
    def refused(self, console, error, command):
        with self.subTest(repr(command)), self.assertRaises(error):
            console.execute(command)

    def test_values_that_are_no_command(self):
        ready = told(PLANT, BEGIN, "call 0.0")
        before = state(ready)
        for command in NO_COMMANDS:
            # The form is judged ahead of all else, with a tree and a watch, and without.
            for console in (Console(), told(PLANT), ready):
                self.refused(console, InvalidCommand, command)
        self.assertEqual(state(ready), before)

    def test_parts_left_out_or_twice_or_with_spaces(self):
        ready = told(PLANT, BEGIN, "call 0.0")
        for command in (BEGIN, "call 0.0", "back 1", "apart 0.0 0.0 0.0", "distance 1.0 3.1", "crew", "calls", "way", "best"):
            words = command.split(" ")
            self.refused(ready, InvalidCommand, " " + command)
            self.refused(ready, InvalidCommand, command + " ")
            self.refused(ready, InvalidCommand, command + " x")
            self.refused(ready, InvalidCommand, command.upper())
            for at in range(1, len(words)):
                self.refused(ready, InvalidCommand, " ".join(words[:at]) + "  " + " ".join(words[at:]))

    def test_there_is_no_tree(self):
        for command in (BEGIN, "distance 0.0 0.0", "call 0.0", "back 0", "back 1", "apart 0.0") + TELLING:
            self.refused(Console(), NotReady, command)
        # This comes ahead of the errors of the functions.
        for command in ("distance 9.9 0.0", "watch nearest 0.0 9.9", "call 9.9", "apart 9.9"):
            self.refused(Console(), NotReady, command)

    def test_there_is_no_watch(self):
        console = told(PLANT)
        for command in ("call 0.0", "back 0", "crew", "calls", "way", "best", "apart 0.0", "call 9.9", "apart 9.9", "back 5"):
            self.refused(console, NotReady, command)
        self.assertEqual(console.execute("distance 1.0 3.1"), "8")

    def test_texts_of_no_tree(self):
        ready = told(PLANT, BEGIN, "call 0.0")
        before = state(ready)
        texts = [
            " ", "  ", "x", "0", "0:0", "1:1", "0:1 ", " 0:1", "0:1  0:1", "- -", "--", " -", "- ", "0:01", "0.1", "0:1\n", "0:-1",
            "0:" + MANY_DIGITS, "0:1 2:1", "0:\u0661", "tree -", "\n", "\t",
        ]
        for text in texts:
            for console in (Console(), told(PLANT), ready):
                self.refused(console, InvalidText, "tree " + text)
        self.assertEqual(state(ready), before)
        console = Console()
        self.refused(console, InvalidText, "tree x")
        self.refused(console, NotReady, "distance 0.0 0.0")

    def test_points_and_crews_of_another_tree(self):
        ready = told(PLANT, BEGIN, "call 0.0")
        before = state(ready)
        for point in ("0.1", "1.4", "4.0", "3.2", "1." + "9" * 30, "9" * 30 + ".0"):
            self.refused(ready, InvalidPoint, "call " + point)
            self.refused(ready, InvalidPoint, "distance 0.0 " + point)
            self.refused(ready, InvalidPoint, f"distance {point} 0.0")
            self.refused(ready, InvalidCrew, "watch both " + point)
            self.refused(ready, InvalidCrew, "watch nearest 0.0 " + point)
            self.refused(ready, InvalidCrew, "apart 0.0 0.0 " + point)
        for crew in ("0.0", "0.0 0.0", "0.0 0.0 0.0 0.0", "1.4 0.0"):
            self.refused(ready, InvalidCrew, "apart " + crew)
        self.assertEqual(state(ready), before)

    def test_more_to_take_back_than_there_is(self):
        ready = told(PLANT, BEGIN, "call 0.0")
        before = state(ready)
        for count in ("2", "3", "1000000000", "9" * 30):
            self.refused(ready, NothingToUndo, "back " + count)
        self.assertEqual(state(ready), before)
        self.assertEqual(ready.execute("back 1"), "ok")
        self.refused(ready, NothingToUndo, "back 1")
        self.assertEqual(ready.execute("back 0"), "ok")


if __name__ == "__main__":
    unittest.main()
