"""Promises [3], [4], [30], [31] and "lendroads/books.py" in the interface."""

import random
import unittest

import brute
from tools import NO_NAMES, Case

from lendroads.books import Book, CalmBook, CalmLoggedBook, LoggedBook
from lendroads.calm import accepts_calm, calm_certificate
from lendroads.distances import distance, shortest_path
from lendroads.errors import (
    InTrial, InvalidChange, InvalidEdge, InvalidLength, InvalidNode, NotCalm, NothingToRedo, NothingToUndo, OutOfRange,
    TooMany, UnknownEdge, UnknownNode)
from lendroads.networks import Network

EDGES = [("ab", "a", "b", -1), ("bc", "c", "b", 1), ("ca", "c", "a", 1)]
N = Network(["a", "b", "c"], EDGES)
BOOKS = [Book, CalmBook, LoggedBook, CalmLoggedBook]
CALM_BOOKS = [CalmBook, CalmLoggedBook]
NO_COUNTS = [None, True, False, 0, -1, -(10 ** 59), "1", "", (), (1,), [], [1], {}, {1: 2}]
CHANGES = [
    ("node", "d"), ("edge", "bd", "d", "b", -1), ("cut", "ca"), ("length", "bc", 2), ("drop", "c"), ("node", "c")]
NO_CHANGES = [
    *NO_NAMES, "node", "node d", ("node",), ("node", "d", "e"), ("Node", "d"), ("nodes", "d"), ("drop",), ("cut",),
    ("drop", "a", "b"), ("edge", "x", "a", "b"), ("edge", "x", "a", "b", 1, 1), ("edge", ("x", "a", "b", 1)),
    ("edge",), ("length", "ab"), ("length", "ab", 1, 1), ("length",), ("turn", "ab"), (None, "d"), (["node"], "d"),
    (("node",), "d"), ({"node": 1}, "d"), (1, "d"), (True, "d"), ["node", "d"], [("node", "d")], (("node", "d"),),
    {"node": "d"}, ("node ", "d"), ("undo", 1), ("cut", "ab", None), ("", "d"), ("d",)]


class BookCase(Case):
    def check(self, book, network, undoable=0, redoable=0, depth=0):
        self.assertIs(type(book.network), Network)
        self.assertEqual(book.network, network)
        self.assertEqual([book.undoable, book.redoable, book.depth], [undoable, redoable, depth])

    def assert_bare_error(self, kind, call, *args):
        with self.assertRaises(kind) as held:
            call(*args)
        self.assertIs(type(held.exception), kind)

    def books(self):
        return [kind(["a", "b", "c"], EDGES) for kind in BOOKS]


class Construction(BookCase):
    def test_new_books(self):
        for kind in BOOKS:
            self.check(kind(["c", "a", "b"], EDGES[::-1]), N)
            self.check(kind(nodes=("b", "a")), Network(["a", "b"]))
            self.check(kind(nodes=["c", "a", "b"], edges=tuple(EDGES)), N)

    def test_lists_are_copied(self):
        for kind in BOOKS:
            nodes, edges = ["a", "b", "c"], list(EDGES)
            book = kind(nodes, edges)
            nodes.clear()
            edges.clear()
            self.check(book, N)

    def test_errors_of_networks(self):
        for kind in BOOKS:
            for value in NO_NAMES:
                self.assertIs(self.assert_error(InvalidNode, value, kind, ["a", value, "a"], None), value)
            self.assert_error(InvalidNode, (), kind, [], [None])
            self.assert_error(InvalidNode, None, kind, None)
            self.assert_error(InvalidEdge, ("x", "a", "z", 1), kind, ["a", "b"], [("x", "a", "z", 1)])
            self.assert_error(InvalidEdge, None, kind, ["a", "b"], None)
            ends = brute.names(12)
            edges = [("e" + ends[at], ends[at], ends[at + 1], -1) for at in range(0, 12, 2)]
            self.assert_error(TooMany, 10, kind, ends, [*edges, ("x", "a", "b", 0)])

    def test_calm_books(self):
        edges = [("x", "a", "b", -2), ("y", "a", "b", 1)]
        for kind in CALM_BOOKS:
            self.assert_not_calm(Network(["a", "b"], edges), kind, ["a", "b"], edges)
        for kind in (Book, LoggedBook):
            self.assertIs(kind(["a", "b"], edges).is_calm(), False)

    def test_classes(self):
        self.assertEqual([CalmBook.__bases__, LoggedBook.__bases__], [(Book,), (Book,)])
        self.assertEqual(CalmLoggedBook.__bases__, (CalmBook, LoggedBook))
        self.assertIn("__init__", vars(CalmBook))

    def test_properties_are_not_assigned(self):
        book = LoggedBook(["a"])
        for name in ("network", "undoable", "redoable", "depth", "log"):
            with self.assertRaises(AttributeError):
                setattr(book, name, 0)
        with self.assertRaises(AttributeError):
            book.trial().kept = True


class Changes(BookCase):
    def test_every_kind_alone(self):
        expected = [
            (("node", "d"), N.with_nodes("d")), (("drop", "b"), N.without_nodes("b")),
            (("edge", "x", "b", "a", 5), N.with_edges(("x", "a", "b", 5))), (("cut", "ab"), N.without_edges("ab")),
            (("length", "ab", 7), N.with_lengths(ab=7)), (("length", "ab", -1), N)]
        for change, network in expected:
            for book in self.books():
                self.assertIsNone(book.change(change))
                self.check(book, network, undoable=1)

    def test_several_as_one_step(self):
        network = Network(["a", "b", "c", "d"], [("ab", "a", "b", -1), ("bd", "b", "d", -1)])
        for book in self.books():
            self.assertIsNone(book.change(*CHANGES))
            self.check(book, network, undoable=1)
            book.undo()
            self.check(book, N, redoable=1)

    def test_no_change_is_a_step(self):
        for book in self.books():
            self.assertIsNone(book.change())
            self.check(book, N, undoable=1)
            book.change(("node", "d"))
            book.undo(2)
            self.check(book, N, redoable=2)
            book.change()
            self.check(book, N, undoable=1)

    def test_edge_called_self(self):
        for kind in BOOKS:
            book = kind(["a", "b"], [("self", "a", "b", 3)])
            book.change(("length", "self", -4))
            self.assertEqual(book.distance("a", "b"), -4)

    def test_what_is_no_change(self):
        for book in self.books():
            book.change()
            book.undo()
            for value in NO_CHANGES:
                for at in range(4):
                    changes = [("node", "a"), ("drop", 7), ("edge", None, None, None, None)]
                    changes.insert(at, value)
                    self.assert_error(InvalidChange, at, book.change, *changes)
                    self.assert_error(InvalidChange, at, book.change, *changes, None, "x")
            self.check(book, N, redoable=1)

    def test_values_of_the_parts_are_not_looked_at_for_this(self):
        for book in self.books():
            for value in NO_NAMES:
                self.assert_error(InvalidChange, 1, book.change, ("node", value), None)
                self.assertIs(self.assert_error(InvalidNode, value, book.change, ("node", value)), value)
                self.assertIs(self.assert_error(UnknownNode, value, book.change, ("drop", value)), value)
                self.assertIs(self.assert_error(UnknownEdge, value, book.change, ("cut", value)), value)
                self.assertIs(self.assert_error(UnknownEdge, value, book.change, ("length", value, "x")), value)
                for at in range(3):
                    edge = ["x", "a", "b", 1]
                    edge[at] = value
                    self.assert_error(InvalidEdge, tuple(edge), book.change, ("edge", *edge))
            for value in [None, True, "1", 1000001, [], {}, (1,)]:
                self.assertIs(self.assert_error(InvalidLength, value, book.change, ("length", "ab", value)), value)
                self.assert_error(InvalidEdge, ("x", "a", "b", value), book.change, ("edge", "x", "a", "b", value))
            self.check(book, N)

    def test_wrong_changes_at_every_place(self):
        wrong = [
            (("node", "a"), InvalidNode, "a"), (("drop", "z"), UnknownNode, "z"), (("cut", "z"), UnknownEdge, "z"),
            (("edge", "ab", "a", "b", 1), InvalidEdge, ("ab", "a", "b", 1)), (("length", "z", 1), UnknownEdge, "z"),
            (("edge", "x", "a", "a", 1), InvalidEdge, ("x", "a", "a", 1)), (("length", "ab", "1"), InvalidLength, "1")]
        for book in self.books():
            for change, kind, field in wrong:
                for at in range(len(CHANGES) + 1):
                    changes = [*CHANGES[:at], change, *CHANGES[at:]]
                    self.assert_error(kind, field, book.change, *changes)
                    self.assert_error(kind, field, book.change, *changes, ("drop", "z"))
                    self.assert_error(InvalidChange, len(changes), book.change, *changes, ("drop",))
            self.check(book, N)

    def test_one_after_the_other(self):
        for book in self.books():
            first = [("node", "d"), ("edge", "x", "d", "a", 1), ("drop", "d")]
            book.change(*first, ("node", "x"), ("edge", "x", "x", "a", 2))
            self.check(book, N.with_nodes("x").with_edges(("x", "a", "x", 2)), undoable=1)
            self.assert_error(UnknownEdge, "y", book.change, ("cut", "y"), ("edge", "y", "a", "b", 5))
            self.assert_error(UnknownEdge, "ab", book.change, ("drop", "a"), ("length", "ab", 5))

    def test_last_node(self):
        for kind in BOOKS:
            book = kind(["a"])
            self.assert_error(InvalidNode, (), book.change, ("drop", "a"))
            self.assert_error(InvalidNode, (), book.change, ("drop", "a"), ("node", "b"))
            self.assert_error(UnknownNode, "b", book.change, ("drop", "b"))
            book.change(("node", "b"), ("drop", "a"))
            self.check(book, Network(["b"]), undoable=1)

    def test_too_many(self):
        for kind in BOOKS:
            ends = brute.names(40)
            book = kind(ends, [("e" + ends[at], ends[at], ends[at + 1], -1) for at in range(0, 10, 2)])
            self.assert_error(InvalidNode, "zz", book.change, ("node", "zz"))
            self.assert_error(TooMany, 10, book.change, ("edge", "x", "y", "z", -1))
            # The odd nodes are too many after the second change, though not at the end.
            changes = [("length", "ea", -2), ("edge", "x", "y", "z", -1), ("cut", "ea")]
            self.assert_error(TooMany, 10, book.change, *changes)
            self.assert_error(TooMany, 10, book.change, *changes, ("node", "a"))
            book.change(changes[0], changes[2], changes[1])
            more = [("edge", "k" + name, "a", "b", 2) for name in brute.names(95)]
            book.change(*more)
            self.assert_error(TooMany, 100, book.change, ("edge", "q", "a", "b", 1))
            self.assertEqual([len(book.network), book.undoable], [100, 2])

    def test_answers_are_those_of_the_network(self):
        for book in self.books():
            self.assertIs(book.is_calm(), True)
            self.assertEqual(book.distance(u="a", v="c"), 0)
            self.assertEqual(book.shortest_path(u="a", v="c"), shortest_path(N, "a", "c"))
            self.assertEqual(book.certificate(), calm_certificate(N))
            book.change(("length", "ab", 5), ("node", "d"))
            self.assertEqual([book.distance("a", "b"), book.distance("a", "d")], [2, None])
            self.assertEqual(book.shortest_path("a", "b").edges, ("ca", "bc"))
            self.assertIsNone(book.shortest_path("a", "d"))
            book.undo()
            self.assertEqual(book.distance("a", "b"), -1)
            book.certificate().append(5)
            self.assertTrue(accepts_calm(book.network, book.certificate()))
            for call in (book.distance, book.shortest_path):
                for value in [*NO_NAMES, "d"]:
                    self.assertIs(self.assert_error(UnknownNode, value, call, value, "zz"), value)
                    self.assertIs(self.assert_error(UnknownNode, value, call, "a", value), value)

    def test_answers_where_the_network_is_not_calm(self):
        for kind in (Book, LoggedBook):
            book = kind(["a", "b", "c"], EDGES)
            book.change(("length", "ca", -1))
            self.assertIs(book.is_calm(), False)
            self.assert_not_calm(book.network, book.distance, "a", "b")
            self.assert_not_calm(book.network, book.shortest_path, "a", "b")
            self.assert_not_calm(book.network, book.certificate)
            self.assert_error(UnknownNode, "z", book.distance, "a", "z")
            self.check(book, N.with_lengths(ca=-1), undoable=1)


class UndoAndRedo(BookCase):
    def test_counts(self):
        for book in self.books():
            networks = [book.network]
            for change in CHANGES:
                book.change(change)
                networks.append(book.network)
            self.assertIsNone(book.undo())
            self.check(book, networks[5], 5, 1)
            self.assertIsNone(book.undo(3))
            self.check(book, networks[2], 2, 4)
            self.assertIsNone(book.redo(2))
            self.check(book, networks[4], 4, 2)
            self.assertIsNone(book.redo())
            book.undo(count=5)
            self.check(book, N, 0, 6)
            book.redo(count=6)
            self.check(book, networks[6], 6, 0)

    def test_errors_in_their_order(self):
        for book in self.books():
            book.change()
            book.change()
            book.undo()
            for value in NO_COUNTS:
                self.assertIs(self.assert_error(OutOfRange, value, book.undo, value), value)
                self.assertIs(self.assert_error(OutOfRange, value, book.redo, count=value), value)
            for count in (2, 3, 10 ** 59):
                self.assert_bare_error(NothingToUndo, book.undo, count)
                self.assert_bare_error(NothingToRedo, book.redo, count)
            self.check(book, N, 1, 1)
            with book.trial():
                for value in [*NO_COUNTS, 1, 2, 9]:
                    self.assert_bare_error(InTrial, book.undo, value)
                    self.assert_bare_error(InTrial, book.redo, value)
                self.assert_bare_error(InTrial, book.undo)
                self.assert_bare_error(InTrial, book.redo)
            book.undo()
            self.assert_bare_error(NothingToUndo, book.undo)
            book.redo(2)
            self.assert_bare_error(NothingToRedo, book.redo)

    def test_a_new_step_makes_redoing_impossible(self):
        for book in self.books():
            book.change(("node", "d"))
            book.change(("node", "e"))
            book.undo()
            self.assert_error(InvalidNode, "a", book.change, ("node", "a"))
            self.check(book, N.with_nodes("d"), 1, 1)
            book.change(("node", "f"))
            self.check(book, N.with_nodes("d", "f"), 2, 0)
            self.assert_bare_error(NothingToRedo, book.redo)


class Trials(BookCase):
    def test_example(self):
        book = CalmBook(["a", "b"], [("ab", "a", "b", 1)])
        with book.trial() as trial:
            book.change(("node", "c"), ("edge", "bc", "b", "c", -2))
            found = book.distance("a", "c")
        self.assertEqual([found, book.network.nodes, trial.kept, book.undoable], [-1, ("a", "b"), False, 0])

    def prepared(self, book):
        """The book with two steps and one that can be redone."""
        for name in ("x", "y", "z"):
            book.change(("node", name))
        book.undo()
        return book.network

    def test_not_kept(self):
        for book in self.books():
            before = self.prepared(book)
            trial = book.trial()
            with trial as entered:
                self.assertIs(entered, trial)
                book.change(("node", "p"))
                book.change(("drop", "x"))
                self.check(book, before.with_nodes("p").without_nodes("x"), 2, 1, 1)
                self.assertIs(trial.kept, False)
            self.check(book, before, 2, 1)
            self.assertIs(trial.kept, False)
            book.redo()
            self.check(book, before.with_nodes("z"), 3, 0)

    def test_kept_as_one_step(self):
        for book in self.books():
            before = self.prepared(book)
            with book.trial() as trial:
                book.change(("node", "p"))
                self.assertIsNone(trial.keep())
                book.change(("node", "q"))
                self.assertIs(trial.kept, False)
                self.check(book, before.with_nodes("p", "q"), 2, 1, 1)
            self.assertIs(trial.kept, True)
            self.check(book, before.with_nodes("p", "q"), 3, 0)
            self.assert_bare_error(NothingToRedo, book.redo)
            book.undo()
            self.check(book, before, 2, 1)
            book.redo()
            self.check(book, before.with_nodes("p", "q"), 3, 0)
            self.assertIs(trial.kept, True)

    def test_kept_without_changes(self):
        for book in self.books():
            before = self.prepared(book)
            with book.trial() as trial:
                trial.keep()
            self.check(book, before, 3, 0)

    def test_keeping_twice(self):
        for book in self.books():
            with book.trial() as trial:
                trial.keep()
                trial.keep()
            self.check(book, N, 1, 0)

    def test_exception_leaves_the_block(self):
        for book in self.books():
            before = self.prepared(book)
            for error in (KeyError("x"), InTrial(), GeneratorExit(), OutOfRange(3)):
                for keeping in (False, True):
                    with self.assertRaises(type(error)) as held:
                        with book.trial() as trial:
                            book.change(("node", "p"))
                            if keeping:
                                trial.keep()
                            raise error
                    self.assertIs(held.exception, error)
                    self.assertIs(trial.kept, False)
                    self.check(book, before, 2, 1)

    def test_error_of_a_change_within_the_block(self):
        for book in self.books():
            with book.trial() as trial:
                book.change(("node", "p"))
                self.assert_error(InvalidNode, "p", book.change, ("node", "q"), ("node", "p"))
                self.check(book, N.with_nodes("p"), 0, 0, 1)
                trial.keep()
            self.check(book, N.with_nodes("p"), 1, 0)

    def test_nested(self):
        for outer_kept in (False, True):
            for inner_kept in (False, True):
                for book in self.books():
                    self.check_nested(book, outer_kept, inner_kept)

    def check_nested(self, book, outer_kept, inner_kept):
        before = self.prepared(book)
        with book.trial() as outer:
            book.change(("node", "p"))
            with book.trial() as inner:
                book.change(("node", "q"))
                self.check(book, before.with_nodes("p", "q"), 2, 1, 2)
                if inner_kept:
                    inner.keep()
            within = before.with_nodes("p", "q") if inner_kept else before.with_nodes("p")
            self.check(book, within, 2, 1, 1)
            self.assertEqual([inner.kept, outer.kept], [inner_kept, False])
            if outer_kept:
                outer.keep()
        self.check(book, *([within, 3, 0] if outer_kept else [before, 2, 1]))
        self.assertEqual([inner.kept, outer.kept], [inner_kept, outer_kept])

    def test_keeping_an_outer_block_within_an_inner_one(self):
        for inner_kept in (False, True):
            for book in self.books():
                with book.trial() as outer:
                    book.change(("node", "p"))
                    with book.trial() as inner:
                        book.change(("node", "q"))
                        outer.keep()
                        if inner_kept:
                            inner.keep()
                    self.assertEqual([outer.kept, inner.kept], [False, inner_kept])
                self.assertEqual([outer.kept, inner.kept], [True, inner_kept])
                self.check(book, N.with_nodes("p", "q") if inner_kept else N.with_nodes("p"), 1, 0)

    def test_keeping_an_outer_block_before_an_exception_leaves_the_inner_one(self):
        for book in self.books():
            with book.trial() as outer:
                try:
                    with book.trial() as inner:
                        book.change(("node", "q"))
                        outer.keep()
                        inner.keep()
                        raise KeyError("x")
                except KeyError:
                    self.check(book, N, 0, 0, 1)
            self.assertEqual([outer.kept, inner.kept], [True, False])
            self.check(book, N, 1, 0)

    def test_objects_that_are_not_entered(self):
        for book in self.books():
            trial = book.trial()
            self.assertIsNot(book.trial(), trial)
            self.assertIs(trial.kept, False)
            book.change(("node", "d"))
            self.check(book, N.with_nodes("d"), 1, 0)
            # What is done between the creation and the block is not taken back.
            with trial:
                book.change(("node", "e"))
            self.check(book, N.with_nodes("d"), 1, 0)

    def test_in_trial(self):
        for book in self.books():
            result = [1]
            seen = []

            def drop(trial):
                seen.append(trial)
                book.change(("node", "d"))
                self.check(book, N.with_nodes("d"), 0, 0, 1)
                return result

            def keep(trial):
                drop(trial)
                trial.keep()

            self.assertIs(book.in_trial(drop), result)
            self.check(book, N)
            self.assertIsNone(book.in_trial(call=keep))
            self.check(book, N.with_nodes("d"), 1, 0)
            self.assertEqual([trial.kept for trial in seen], [False, True])
            self.assertIsNot(seen[0], seen[1])

    def test_in_trial_with_an_exception(self):
        for book in self.books():
            error = ZeroDivisionError()

            def call(trial):
                trial.keep()
                book.change(("node", "d"))
                raise error

            with self.assertRaises(ZeroDivisionError) as held:
                book.in_trial(call)
            self.assertIs(held.exception, error)
            self.check(book, N)

    def test_two_books(self):
        one, other = Book(["a"]), Book(["a"])
        with one.trial():
            one.change(("node", "b"))
            with other.trial() as trial:
                other.change(("node", "c"))
                trial.keep()
            self.check(other, Network(["a", "c"]), 1, 0, 0)
            other.undo()
            self.check(one, Network(["a", "b"]), 0, 0, 1)
        self.check(one, Network(["a"]))

    def test_a_hundred_deep(self):
        for book in self.books():
            trials = []

            def go_down(trial):
                trials.append(trial)
                deep = len(trials)
                self.assertEqual(book.depth, deep)
                book.change(("length", "ab", deep))
                if deep < 100:
                    book.in_trial(go_down)
                self.assertEqual(book.network["ab"][3], deep if deep < 49 else 100)
                if deep >= 50:
                    trial.keep()
                return deep

            self.assertEqual(book.in_trial(go_down), 1)
            self.check(book, N)
            self.assertEqual([trial.kept for trial in trials], [False] * 49 + [True] * 51)


class CalmBooks(BookCase):
    def test_a_change_to_a_network_that_is_not_calm(self):
        for kind in CALM_BOOKS:
            book = kind(["a", "b", "c"], EDGES)
            book.change()
            book.undo()
            self.assert_not_calm(N.with_lengths(ca=-1), book.change, ("length", "ca", -1))
            self.assert_not_calm(N.with_edges(("x", "a", "b", 0)), book.change, ("edge", "x", "b", "a", 0))
            self.check(book, N, 0, 1)
            book.change(("length", "ca", 0))
            self.check(book, N.with_lengths(ca=0), 1, 0)

    def test_after_all_other_errors(self):
        for kind in CALM_BOOKS:
            book = kind(["a", "b", "c"], EDGES)
            bad = ("length", "ca", -1)
            self.assert_error(InvalidChange, 1, book.change, bad, ("node",))
            self.assert_error(InvalidNode, "a", book.change, bad, ("node", "a"))
            self.assert_error(UnknownEdge, "z", book.change, bad, ("cut", "z"))
            self.check(book, N)

    def test_only_the_network_after_all_changes_counts(self):
        for kind in CALM_BOOKS:
            book = kind(["a", "b", "c"], EDGES)
            book.change(("length", "ca", -5), ("length", "bc", 9))
            self.check(book, N.with_lengths(ca=-5, bc=9), 1, 0)
            book.change(("length", "bc", 1), ("cut", "ab"))
            self.assert_not_calm(Network(["a", "b"], [("x", "a", "b", -1), ("y", "a", "b", -1)]), book.change,
                                 ("drop", "c"), ("edge", "x", "a", "b", -1), ("edge", "y", "a", "b", -1))
            self.assertEqual([book.undoable, book.redoable], [2, 0])
            for count in (1, 1):
                book.undo(count)
                self.assertIs(book.is_calm(), True)
            book.redo(2)
            self.assertIs(book.is_calm(), True)

    def test_trials(self):
        for kind in CALM_BOOKS:
            book = kind(["a", "b", "c"], EDGES)
            with book.trial() as trial:
                book.change(("length", "ca", 0))
                self.assert_not_calm(N.with_lengths(ca=-1), book.change, ("length", "ca", -1))
                with book.trial():
                    self.assert_not_calm(N.with_lengths(bc=-7, ca=0), book.change, ("length", "bc", -7))
                    self.check(book, N.with_lengths(ca=0), 0, 0, 2)
                trial.keep()
            self.check(book, N.with_lengths(ca=0), 1, 0)
            with self.assertRaises(NotCalm):
                with book.trial() as trial:
                    book.change(("node", "d"))
                    trial.keep()
                    book.change(("length", "ca", -1))
            self.check(book, N.with_lengths(ca=0), 1, 0)


class LoggedBooks(BookCase):
    def test_each_kind_of_call_and_block(self):
        for kind in (LoggedBook, CalmLoggedBook):
            book = kind(["a", "b", "c"], EDGES)
            self.assertEqual(book.log, ())
            changes = (("node", "d"), ("edge", "x", "d", "a", 4))
            expected = [("change", changes), ("change", ()), ("undo", 1), ("undo", 1)]
            book.change(*changes)
            book.change()
            book.undo()
            book.undo(1)
            self.assertEqual(book.log, tuple(expected))
            book.redo(count=2)
            book.in_trial(lambda trial: trial.keep())
            book.in_trial(lambda trial: None)
            expected.extend([("redo", 2), ("trial", True), ("trial", False)])
            self.assertEqual(book.log, tuple(expected))
            self.assert_plain(book.log)
            book.undo(3)
            self.assertEqual(book.log, (*expected, ("undo", 3)))

    def test_in_the_order_in_which_they_ended(self):
        for kind in (LoggedBook, CalmLoggedBook):
            book = kind(["a"])
            with book.trial() as outer:
                book.change(("node", "b"))
                with book.trial() as inner:
                    inner.keep()
                    book.change(("node", "c"))
                    self.assertEqual(len(book.log), 2)
                with book.trial():
                    outer.keep()
                book.change(("drop", "c"))
            self.assertEqual(book.log, (
                ("change", (("node", "b"),)), ("change", (("node", "c"),)), ("trial", True), ("trial", False),
                ("change", (("drop", "c"),)), ("trial", True)))

    def test_calls_that_raise_an_error(self):
        for kind in (LoggedBook, CalmLoggedBook):
            book = kind(["a", "b"], [("x", "a", "b", 1), ("y", "a", "b", -1)])
            calls = [(book.change, ("node", "a")), (book.change, None), (book.undo,), (book.redo,), (book.undo, 0),
                     (book.distance, "a", "z")]
            if kind is CalmLoggedBook:
                calls.append((book.change, ("length", "x", 0)))
            for call, *args in calls:
                with self.assertRaises(Exception):
                    call(*args)
            self.assertEqual(book.log, ())
            with self.assertRaises(KeyError):
                with book.trial() as trial:
                    trial.keep()
                    self.assert_bare_error(InTrial, book.undo)
                    book.change()
                    raise KeyError("x")
            self.assertEqual(book.log, (("change", ()), ("trial", False)))

    def test_objects_that_are_not_entered(self):
        book = LoggedBook(["a"])
        book.trial()
        self.assertEqual(book.log, ())

    def test_changes_in_the_log_are_not_changed(self):
        book = LoggedBook(["a"])
        log = book.log
        book.change()
        self.assertEqual([log, book.log], [(), (("change", ()),)])


class Equality(BookCase):
    def test_books_of_all_classes(self):
        for one in self.books():
            for other in self.books():
                self.assertIs(one == other, True)
                other.change(("length", "ab", 5))
                self.assertIs(one == other, False)
                self.assertIs(one != other, True)
                other.undo()
                self.assertIs(one == other, True)
                self.assertIs(one != other, False)

    def test_steps_do_not_matter(self):
        one, other = Book(["a"]), LoggedBook(["a", "b"])
        other.change(("drop", "b"))
        self.assertIs(one == other, True)
        with other.trial():
            other.change(("node", "b"))
            self.assertIs(one == other, False)
            self.assertIs(Book(["b", "a"]) == other, True)

    def test_other_kinds(self):
        for book in self.books():
            for value in [*NO_NAMES, N, book.network, book.trial()]:
                self.assertIs(book == value, False)
                self.assertIs(value == book, False)
                self.assertIs(book != value, True)


class Model:
    """A book in plain words: all networks are written down."""

    def __init__(self, nodes, edges):
        self.present = (sorted(nodes), sorted(edges))
        self.done = []
        self.undone = []
        self.depth = 0
        self.log = []

    def step_to(self, present):
        if self.depth == 0:
            self.done.append(self.present)
            self.undone = []
        self.present = present

    def changed(self, changes):
        """The nodes and edges after the changes, or None if one cannot be made."""
        nodes, edges = self.present
        for word, name, *more in changes:
            names = [edge[0] for edge in edges]
            if word == "node":
                if name in nodes:
                    return None
                nodes = sorted([*nodes, name])
            elif word == "drop":
                if name not in nodes or len(nodes) == 1:
                    return None
                nodes = [node for node in nodes if node != name]
                edges = [edge for edge in edges if name not in edge[1:3]]
            elif word == "edge":
                if name in names or not {more[0], more[1]} <= set(nodes) or more[0] == more[1]:
                    return None
                edges = sorted([*edges, (name, min(more[:2]), max(more[:2]), more[2])])
            else:
                if name not in names:
                    return None
                kept = [edge for edge in edges if edge[0] != name]
                [old] = [edge for edge in edges if edge[0] == name]
                edges = kept if word == "cut" else sorted([*kept, (*old[:3], more[0])])
        return nodes, edges


def random_change(chance):
    node, other = chance.choice("abcdef"), chance.choice("abcdef")
    name = chance.choice("pqrstuvw")
    length = chance.choice((-2, -1, 0, 1, 2, 3))
    return chance.choice([("node", node), ("node", node), ("drop", node), ("edge", name, node, other, length),
                          ("edge", name, node, other, length), ("cut", name), ("length", name, length)])


class Play:
    """Does the same by chance in a book and in a model, and compares them after each call."""

    def __init__(self, test, seed, kind):
        self.test = test
        self.chance = random.Random(seed)
        self.calm = kind in CALM_BOOKS
        self.book = kind(["a", "b", "c"])
        self.model = Model("abc", [])

    def compare(self):
        book, model = self.book, self.model
        self.test.check(book, Network(*model.present), len(model.done), len(model.undone), model.depth)
        self.test.assertEqual(book.is_calm(), brute.is_calm(model.present[1]))
        if isinstance(book, LoggedBook):
            self.test.assertEqual(book.log, tuple(model.log))
        if book.is_calm():
            u, v = book.network.nodes[0], book.network.nodes[-1]
            self.test.assertEqual(book.distance(u, v), brute.distance(model.present[1], u, v))
            self.test.assertEqual(book.distance(u, v), distance(book.network, u, v))

    def change(self):
        changes = tuple(random_change(self.chance) for _ in range(self.chance.randint(0, 3)))
        present = self.model.changed(changes)
        if present is None or self.calm and not brute.is_calm(present[1]):
            with self.test.assertRaises((InvalidNode, InvalidEdge, UnknownNode, UnknownEdge, NotCalm)):
                self.book.change(*changes)
        else:
            self.book.change(*changes)
            self.model.step_to(present)
            self.model.log.append(("change", changes))

    def move(self, word, call, source, target, error):
        count = self.chance.randint(1, 4)
        if self.model.depth:
            self.test.assert_bare_error(InTrial, call, count)
        elif count > len(source):
            self.test.assert_bare_error(error, call, count)
        else:
            call(count)
            for _ in range(count):
                target.append(self.model.present)
                self.model.present = source.pop()
            self.model.log.append((word, count))

    def trial(self, most):
        model = self.model
        before = model.present
        model.depth += 1
        keep, fail = self.chance.random() < 0.5, self.chance.random() < 0.2
        try:
            with self.book.trial() as trial:
                self.rounds(most)
                if keep:
                    trial.keep()
                if fail:
                    raise LookupError("left")
        except LookupError:
            self.test.assertTrue(fail)
        model.depth -= 1
        kept = keep and not fail
        after = model.present
        model.present = before
        if kept:
            model.step_to(after)
        model.log.append(("trial", kept))
        self.test.assertIs(trial.kept, kept)

    def rounds(self, most):
        for _ in range(most):
            choice = self.chance.random()
            if choice < 0.6:
                self.change()
            elif choice < 0.72:
                self.move("undo", self.book.undo, self.model.done, self.model.undone, NothingToUndo)
            elif choice < 0.84:
                self.move("redo", self.book.redo, self.model.undone, self.model.done, NothingToRedo)
            elif most > 1:
                self.trial(most // 2)
            self.compare()


class LongRows(BookCase):
    def test_against_a_plain_model(self):
        for kind in BOOKS:
            for seed in range(12):
                play = Play(self, seed, kind)
                play.rounds(30)
                while play.model.done:
                    play.move("undo", play.book.undo, play.model.done, play.model.undone, NothingToUndo)
                    play.compare()

    def test_many_steps(self):
        for book in self.books():
            for count in range(600):
                book.change(("length", "ca", count + 1))
            self.check(book, N.with_lengths(ca=600), 600, 0)
            for count in range(600):
                self.assertEqual(book.network["ca"][3], 600 - count)
                book.undo()
            self.check(book, N, 0, 600)
            book.redo(600)
            book.undo(250)
            self.check(book, N.with_lengths(ca=350), 350, 250)


if __name__ == "__main__":
    unittest.main()
