"""Promise [40] and "lendroads/console.py" in the interface."""

import unittest

from tools import NO_NAMES, Case

from lendroads.books import Book
from lendroads.console import Console
from lendroads.errors import (
    InTrial, InvalidCommand, InvalidEdge, InvalidLength, InvalidNode, InvalidNodes, NothingToRedo, NothingToUndo,
    TooMany, UnknownEdge, UnknownNode)
from lendroads.networks import Network
from lendroads.survey import table

DIGITS = "1" + "0" * 29
LINES = [
    "node e", "drop a", "edge z a b 1", "cut x", "length x 1", "undo", "redo", "undo 1", "redo 1", "calm", "far a b",
    "far a", "least", "least a b", "least d c b a", "fall x", "show", "table", "table a b a"]
NO_LINES = [
    *[value for value in NO_NAMES if not isinstance(value, str)], ["calm"], ("calm",), {"calm": None}, [["node", "a"]],
    "", " ", "\n", "a", "Calm", "CALM", "calm ", " calm", "calm\n", "\ncalm", "calm x", "calm 1", "calm  ", "calms",
    "node", "node ", "node  a", "node a ", " node a", "node a b", "node A", "node a1", "node 1", "node abcdefghi",
    "node a\n", "node\na", "node -a", "node a,b", "node a;", "nodea", "drop", "drop a b", "drop 7", "cut", "cut x y",
    "cut 1", "edge", "edge x", "edge x a b", "edge x a b 1 2", "edge x a 1", "edge x a b c", "edge x  a b 1",
    "edge x a b  1", "edge x a b 1 ", "edge 1 a b x", "edge x a b 01", "edge x a b +1", "edge x a b -0",
    "edge x a b 00", "edge x a b -01", "edge x a b --1", "edge x a b -", "edge x a b 1.0", "edge x a b 1_0",
    "edge x a b 1 0", "edge x a b 1" + DIGITS, "edge x a b -1" + DIGITS, "edge X a b 1", "edge x a B 1", "edge x a 2 1",
    "length", "length x", "length 1", "length x y", "length x 1 2", "length x 01", "length x +1", "length x -0",
    "length x 1" + DIGITS, "length x " + "9" * 6000, "length x ", "length 1 x", "undo 0", "undo -1", "undo 01",
    "undo +1", "undo a", "undo 1 1", "undo ", "undo  1", "undo 1 ", "undo 1" + DIGITS, "undo -0", "redo 0", "redo -1",
    "redo x",
    "redo 1 2", "redo ", "far", "far ", "far a b c", "far a  b", "far 1", "far a 1", "far A", "least a b c d e",
    "least a b c d e f", "least ", "least 1", "least a  b", "least a b ", "fall", "fall x y", "fall 1", "fall ",
    "show a", "show ", " show", "table ", "table 1", "table a  b", "table a b ", "table A", "quit", "help",
    "trial", "trial ",
    "trial  calm", "trial calm ", "trial calm;", "trial calm ;", "trial calm ; ", "trial ; calm", "trial ;",
    "trial calm ;calm", "trial calm; calm", "trial calm  ; calm", "trial calm ;  calm", "trial calm ; ; calm",
    "trial trial calm", "trial calm ; trial calm", "trial calm ; quit", "trial quit ; calm", "trial node a ; node 1",
    "trial\ncalm", "trial calm\ncalm", "calm ; calm", "trialcalm", "Trial calm", "trial undo 0",
    "trial least a b c d e"]


def filled():
    console = Console("a", "b", "c")
    for line in ("edge ab b a -1", "edge bc b c 1", "edge ca c a 1"):
        console.run(line)
    return console


def prepared():
    """A console whose book can do all of the lines above."""
    console = Console("a", "b", "c", "d")
    for line in ("edge x a b 3", "edge y c b -1", "cut x", "undo"):
        console.run(line)
    return console


class ConsoleCase(Case):
    def check(self, console, lines):
        for line, answer in lines:
            self.assertEqual(console.run(line), answer, line)


class Construction(ConsoleCase):
    def test_example(self):
        console = Console("a", "b")
        found = [console("edge x a b -2"), console.run("far a b"), console.run("calm")]
        self.assertEqual([*found, console.run("trial cut x ; far a b")], ["ok", "-2", "yes", "ok\n-"])

    def test_book(self):
        console = Console("b", "a")
        self.assertIs(type(console.book), Book)
        self.assertIs(console.book, console.book)
        self.assertEqual(console.book, Book(["a", "b"]))
        console.book.change(("node", "c"))
        self.assertEqual(console.run("show"), "node a\nnode b\nnode c")
        console.run("undo")
        self.assertEqual([console.book.network, console.book.redoable], [Network(["a", "b"]), 1])
        self.assertIsNot(Console("a").book, Console("a").book)
        with self.assertRaises(AttributeError):
            console.book = Book(["a"])

    def test_errors_of_networks(self):
        self.assert_error(InvalidNode, (), Console)
        for value in NO_NAMES:
            self.assertIs(self.assert_error(InvalidNode, value, Console, "a", value, "a"), value)
        self.assert_error(InvalidNode, "a", Console, "a", "b", "a", "A")


class Lines(ConsoleCase):
    def test_steps(self):
        console = Console("a")
        steps = ["node b", "edge x b a -3", "length x 4", "cut x", "drop b", "node c"]
        networks = [console.book.network]
        for at, line in enumerate(steps):
            self.check(console, [(line, "ok")])
            networks.append(console.book.network)
            self.assertEqual(console.book.undoable, at + 1)
        self.assertEqual(networks[1:], [
            Network(["a", "b"]), Network(["a", "b"], [("x", "a", "b", -3)]), Network(["a", "b"], [("x", "a", "b", 4)]),
            Network(["a", "b"]), Network(["a"]), Network(["a", "c"])])
        moves = [("undo", 5), ("undo 1", 4), ("undo 3", 1), ("redo", 2), ("redo 1", 3), ("redo 3", 6), ("undo 6", 0)]
        for line, at in moves:
            self.check(console, [(line, "ok")])
            self.assertEqual(console.book.network, networks[at])

    def test_calm(self):
        console = filled()
        self.check(console, [("calm", "yes"), ("length bc 0", "ok"), ("calm", "yes"), ("length bc -1", "ok")])
        self.check(console, [("calm", "no"), ("undo", "ok"), ("calm", "yes")])

    def test_far(self):
        console = filled()
        console.run("node d")
        self.check(console, [
            ("far a b", "-1"), ("far a c", "0"), ("far c c", "0"), ("far a d", "-"), ("far d d", "0"),
            ("far a", "a 0\nb -1\nc 0\nd -"), ("far d", "a -\nb -\nc -\nd 0"), ("far b", "a -1\nb 0\nc 0\nd -")])
        self.check(Console("zz", "b"), [("far zz", "b -\nzz 0")])

    def test_least(self):
        console = filled()
        console.run("node d")
        self.check(console, [
            ("least", "0"), ("least a c", "0"), ("least c a", "0"), ("least b", "-"), ("least a b c", "-"),
            ("least a b c d", "-"), ("least d", "-"), ("length ca -1", "ok"), ("least", "-1"), ("least a b", "-1"),
            ("edge cd c d 7", "ok"), ("least d b c a", "6")])

    def test_fall(self):
        console = filled()
        console.run("node d")
        console.run("edge cd d c 5")
        self.check(console, [("fall ab", "1"), ("fall bc", "1"), ("fall cd", "-"), ("length ca 0", "ok")])
        self.check(console, [("fall ca", "0"), ("fall ab", "0")])

    def test_show(self):
        console = filled()
        text = "node a\nnode b\nnode c\nedge ab a b -1\nedge bc b c 1\nedge ca a c 1"
        self.check(console, [("show", text), ("cut ab", "ok"), ("show", text.replace("edge ab a b -1\n", ""))])
        self.check(Console("b", "a"), [("show", "node a\nnode b")])

    def test_table(self):
        console = filled()
        self.check(console, [
            ("table b a", "   b  a\nb  0 -1\na -1  0"), ("table c", "  c\nc 0"), ("table a a", "  a a\na 0 0\na 0 0"),
            ("table", table(console.book.network))])
        self.assertEqual(console.run("table"), "   a  b c\na  0 -1 0\nb -1  0 0\nc  0  0 0")
        many = " ".join(["a", "b", "c"] * 20)
        self.assertEqual(len(console.run("table " + many).split("\n")), 61)

    def test_names_that_are_words_of_commands(self):
        console = Console("node", "trial")
        self.check(console, [
            ("edge edge trial node -5", "ok"), ("far node trial", "-5"), ("length edge 7", "ok"),
            ("table trial", "      trial\ntrial     0"), ("fall edge", "-"), ("least trial node", "7"),
            ("trial cut edge ; least node trial", "ok\n-"), ("cut edge", "ok"), ("drop node", "ok"),
            ("show", "node trial")])

    def test_numbers_with_many_digits(self):
        console = filled()
        for sign in ("", "-"):
            number = int(sign + DIGITS)
            self.assert_error(InvalidLength, number, console.run, "length ab " + sign + DIGITS)
            self.assert_error(InvalidEdge, ("x", "a", "b", number), console.run, "edge x a b " + sign + DIGITS)
        with self.assertRaises(NothingToUndo):
            console.run("undo " + DIGITS)
        with self.assertRaises(NothingToRedo):
            console.run("redo " + DIGITS)
        self.check(console, [("length ab 1000000", "ok"), ("length ab -1000000", "ok"), ("length ab 0", "ok")])

    def test_call_is_run(self):
        one, other = filled(), filled()
        for line in ["far a", "node d", "undo", "trial node e ; show", "table a", "redo", "calm"]:
            self.assertEqual(one(line), other.run(line))
            self.assertEqual(one.book, other.book)
        self.assertEqual(one(line="calm"), other.run(line="calm"))
        for value in NO_LINES:
            self.assertIs(self.assert_error(InvalidCommand, value, one, value), value)
        self.assert_error(UnknownNode, "z", one, "far z")


class WrongLines(ConsoleCase):
    def test_what_is_no_line(self):
        console = filled()
        for value in NO_LINES:
            self.assertIs(self.assert_error(InvalidCommand, value, console.run, value), value)
        self.assertEqual([console.book.undoable, console.book.redoable, console.book.depth], [3, 0, 0])
        self.assertEqual(console.book.network, filled().book.network)

    def test_no_line_within_a_trial(self):
        console = filled()
        for value in NO_LINES:
            if isinstance(value, str) and value != "calm ; calm":
                for line in ("trial " + value, f"trial node x ; {value}", f"trial {value} ; far z"):
                    self.assert_error(InvalidCommand, line, console.run, line)
        self.assertEqual([console.book.network, console.book.undoable], [filled().book.network, 3])

    def test_errors_of_what_it_does(self):
        console = filled()
        expected = [
            ("node a", InvalidNode, "a"), ("drop z", UnknownNode, "z"),
            ("edge ab a b 1", InvalidEdge, ("ab", "a", "b", 1)),
            ("edge x a z 1", InvalidEdge, ("x", "a", "z", 1)), ("edge x a a 1", InvalidEdge, ("x", "a", "a", 1)),
            ("edge x a b 1000001", InvalidEdge, ("x", "a", "b", 1000001)), ("cut z", UnknownEdge, "z"),
            ("length z 1000001", UnknownEdge, "z"), ("length ab -1000001", InvalidLength, -1000001),
            ("far z a", UnknownNode, "z"), ("far a z", UnknownNode, "z"), ("far z", UnknownNode, "z"),
            ("least a a z", UnknownNode, "z"), ("least a b a", InvalidNodes, ("a", "b", "a")),
            ("fall z", UnknownEdge, "z"), ("table a z", UnknownNode, "z")]
        for line, kind, field in expected:
            self.assert_error(kind, field, console.run, line)
            self.assert_error(kind, field, console.run, "trial calm ; " + line + " ; node z")
        with self.assertRaises(NothingToUndo):
            console.run("undo 4")
        with self.assertRaises(NothingToRedo):
            console.run("redo")
        self.assertEqual([console.book.network, console.book.undoable], [filled().book.network, 3])

    def test_last_node_and_too_many(self):
        console = Console("a")
        self.assert_error(InvalidNode, (), console.run, "drop a")
        console = Console(*"abcdefghijkl")
        for ends in ("a b", "c d", "e f", "g h", "i j"):
            console.run(f"edge {ends[0]} {ends} -1")
        self.assert_error(TooMany, 10, console.run, "edge k k l -1")

    def test_networks_that_are_not_calm(self):
        console = filled()
        console.run("length ca -1")
        for line in ("far a", "far a b", "fall ab", "table", "table a", "trial calm ; far a"):
            self.assert_not_calm(console.book.network, console.run, line)
        self.assert_error(UnknownNode, "z", console.run, "far a z")
        self.check(console, [("least", "-1"), ("calm", "no"), ("trial cut ab ; far b a ; calm", "ok\n0\nyes")])


class TrialLines(ConsoleCase):
    def test_results_one_after_the_other(self):
        console = filled()
        before = console.book.network
        self.check(console, [
            ("trial calm", "yes"), ("trial length ca -1 ; calm", "ok\nno"),
            ("trial far a ; far a b", "a 0\nb -1\nc 0\n-1"),
            ("trial node d ; edge x d c -9 ; far a d ; drop b ; far a d ; table a d ; least ; fall x ; length x 2 "
             "; cut x",
             "ok\nok\n-9\nok\n-8\n   a  d\na  0 -8\nd -8  0\n0\n-\nok\nok"),
            ("trial show", before.text)])
        self.assertEqual([console.book.network, console.book.undoable, console.book.redoable], [before, 3, 0])

    def test_what_can_be_redone_stays(self):
        console = filled()
        console.run("undo")
        self.check(console, [("trial node d ; node e", "ok\nok"), ("redo", "ok"), ("far a b", "-1")])

    def test_undo_and_redo(self):
        console = filled()
        console.run("undo")
        before = console.book.network
        for words in ("undo", "redo", "undo 1", "redo 1", "undo 9", "redo 9"):
            for line in (f"trial {words}", f"trial node d ; {words}", f"trial node d ; {words} ; far z"):
                with self.assertRaises(InTrial):
                    console.run(line)
                self.assertEqual([console.book.network, console.book.depth], [before, 0])
                self.assertEqual([console.book.undoable, console.book.redoable], [2, 1])

    def test_within_a_trial_of_the_book(self):
        console = filled()
        with console.book.trial() as trial:
            self.check(console, [("node d", "ok"), ("trial node e ; far a e", "ok\n-"), ("far a d", "-")])
            with self.assertRaises(InTrial):
                console.run("undo")
            trial.keep()
        self.assertEqual([console.book.network.nodes, console.book.undoable], [("a", "b", "c", "d"), 4])

    def test_every_kind_of_line(self):
        for line in LINES:
            if line.split()[0] in ("undo", "redo"):
                with self.assertRaises(InTrial):
                    prepared().run("trial " + line)
            else:
                expected = prepared().run(line)
                self.assertEqual(prepared().run(f"trial {line}"), expected)
                self.assertEqual(prepared().run(f"trial calm ; {line}"), "yes\n" + expected)


if __name__ == "__main__":
    unittest.main()
