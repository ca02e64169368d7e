"""Promises [2], [3] and [4] over the whole program."""

import copy
import inspect
import random
import unittest

import brute
from tools import Case

from lendroads import books, calm, changes, console, cycles, distances, edgesets, joins, networks, paths, survey, texts
from lendroads.edgesets import EdgeSet
from lendroads.errors import NotCalm
from lendroads.networks import Network
from lendroads.paths import Path

NODES = ["a", "b", "c", "d"]
EDGES = [("ab", "a", "b", -1), ("bc", "c", "b", 1), ("ca", "c", "a", 1)]
CERTIFICATE = [(("b",), 2)]

SIGNATURES = {
    texts: {"network_text": "(nodes, edges)", "read_parts": "(text)"},
    networks: {
        "Network": "(nodes, edges=())", "Network.ring": "(*lengths)", "Network.chain": "(*lengths)",
        "Network.read": "(text)", "Network.edges_at": "(self, node)", "Network.parts": "(self)",
        "Network.with_nodes": "(self, *names)", "Network.with_edges": "(self, *edges)",
        "Network.without_nodes": "(self, *names)", "Network.without_edges": "(self, *names)",
        "Network.with_lengths": "(self, **lengths)"},
    edgesets: {
        "EdgeSet": "(network, *names)", "EdgeSet.listed": "(network, names)", "EdgeSet.cut": "(network, *nodes)",
        "EdgeSet.is_path": "(self)", "EdgeSet.is_cycle": "(self)", "EdgeSet.split": "(self)",
        "EdgeSet.is_within": "(self, other)"},
    paths: {
        "Path": "(network, start, *edges)", "Path.along": "(network, start, edges)",
        "all_paths": "(network, u, v, *, most=1000)", "all_cycles": "(network, *, most=1000)"},
    calm: {
        "is_calm": "(network)", "negative_cycle": "(network)", "calm_certificate": "(network)",
        "accepts_calm": "(network, value)", "join_certificate": "(edge_set)", "accepts_join": "(edge_set, value)",
        "accepts_path": "(path, value)"},
    distances: {
        "distance": "(network, u, v)", "distances": "(network, u)", "shortest_path": "(network, u, v)",
        "is_shortest": "(path)", "needed_edges": "(network, u, v)"},
    joins: {"join_length": "(network, *nodes)", "least_join": "(network, *nodes)", "pairs": "(network, *nodes)"},
    cycles: {
        "shortest_cycle": "(network)", "shortest_cycle_through": "(network, name)", "fall": "(network, name)",
        "free_edges": "(network)"},
    changes: {
        "turned": "(network, *names)", "distance_under": "(network, u, v, **lengths)",
        "distance_range": "(network, u, v, name)"},
    survey: {
        "within": "(network, u, limit)", "nearest": "(network, u, *targets)", "farthest": "(network)",
        "center": "(network)", "table": "(network, *nodes)"},
    books: {
        "Book": "(nodes, edges=())", "CalmBook": "(nodes, edges=())", "LoggedBook": "(nodes, edges=())",
        "CalmLoggedBook": "(nodes, edges=())", "Book.change": "(self, *changes)", "Book.undo": "(self, count=1)",
        "Book.redo": "(self, count=1)", "Book.is_calm": "(self)", "Book.distance": "(self, u, v)",
        "Book.shortest_path": "(self, u, v)", "Book.certificate": "(self)", "Book.trial": "(self)",
        "Book.in_trial": "(self, call)"},
    console: {"Console": "(*nodes)", "Console.run": "(self, line)", "Console.__call__": "(self, line)"},
}


def network():
    return Network(NODES, EDGES)


def same():
    return Network(tuple(NODES[::-1]), tuple((name, v, u, length) for name, u, v, length in EDGES[::-1]))


# Each with the arguments by name, over a network that is made anew.
CALLS = [
    lambda one: texts.network_text(nodes=one.nodes, edges=one.edges), lambda one: texts.read_parts(text=one.text),
    lambda one: Network.read(text=one.text).nodes, lambda one: list(one.edges_at(node="a")), lambda one: one.parts(),
    lambda one: Network(nodes=one.nodes, edges=one.edges), lambda one: one.with_lengths(ab=4),
    lambda one: EdgeSet.listed(network=one, names=["ab"]), lambda one: EdgeSet.cut(one, "a"),
    lambda one: EdgeSet(one, "ab", "ca").split(), lambda one: EdgeSet(one, "ab").is_within(other=EdgeSet(one)),
    lambda one: Path.along(network=one, start="a", edges=["ab"]), lambda one: Path(network=one, start="b"),
    lambda one: list(paths.all_paths(network=one, u="a", v="c", most=5)),
    lambda one: list(paths.all_cycles(network=one, most=5)),
    lambda one: calm.is_calm(network=one), lambda one: calm.negative_cycle(network=one),
    lambda one: calm.negative_cycle(network=one.with_lengths(ca=-1)), lambda one: calm.calm_certificate(network=one),
    lambda one: calm.accepts_calm(network=one, value=CERTIFICATE),
    lambda one: calm.join_certificate(edge_set=EdgeSet(one, "ab")),
    lambda one: calm.accepts_join(edge_set=EdgeSet(one), value=CERTIFICATE),
    lambda one: calm.accepts_path(path=Path(one, "a"), value=CERTIFICATE),
    lambda one: distances.distance(network=one, u="a", v="c"), lambda one: distances.distances(network=one, u="a"),
    lambda one: distances.shortest_path(network=one, u="a", v="c"),
    lambda one: distances.is_shortest(path=Path(one, "a", "ab")),
    lambda one: distances.needed_edges(network=one, u="a", v="c"),
    lambda one: joins.join_length(one, "a", "b"), lambda one: joins.least_join(one, "a", "b"),
    lambda one: joins.pairs(one, "a", "b"), lambda one: cycles.shortest_cycle(network=one),
    lambda one: cycles.shortest_cycle_through(network=one, name="ab"), lambda one: cycles.fall(network=one, name="ab"),
    lambda one: cycles.free_edges(network=one), lambda one: changes.turned(one, "ab"),
    lambda one: changes.distance_under(network=one, u="a", v="c", ab=3),
    lambda one: changes.distance_range(network=one, u="a", v="c", name="ab"),
    lambda one: survey.within(network=one, u="a", limit=None), lambda one: survey.nearest(one, "a", "b"),
    lambda one: survey.farthest(network=one), lambda one: survey.center(network=one), lambda one: survey.table(one),
    lambda one: books.Book(nodes=one.nodes, edges=one.edges),
    lambda one: books.CalmBook(nodes=one.nodes, edges=one.edges).distance(u="a", v="c"),
    lambda one: books.LoggedBook(nodes=one.nodes, edges=one.edges).shortest_path(u="a", v="c"),
    lambda one: books.CalmLoggedBook(nodes=one.nodes, edges=one.edges).certificate(),
    lambda one: books.CalmLoggedBook(nodes=one.nodes).log, lambda one: console.Console(*one.nodes).run(line="show"),
    lambda one: console.Console(*one.nodes)(line="table"),
]


class Interface(unittest.TestCase):
    def test_names_of_arguments(self):
        for module, rows in SIGNATURES.items():
            for name, expected in rows.items():
                value = module
                for word in name.split("."):
                    value = getattr(value, word)
                self.assertEqual(str(inspect.signature(value)), expected, name)

    def test_modules(self):
        for module, rows in SIGNATURES.items():
            for name in rows:
                self.assertEqual(getattr(module, name.split(".")[0]).__module__, module.__name__)


class Results(Case):
    def test_equal_calls_on_equal_objects(self):
        self.assertEqual(network(), same())
        for at, call in enumerate(CALLS):
            one = network()
            self.assertEqual(call(one), call(one), at)
            self.assertEqual(call(one), call(same()), at)
            self.assertEqual([one.nodes, one.edges], [same().nodes, same().edges])

    def test_results_belong_to_the_caller(self):
        count = 0
        for call in CALLS:
            one = network()
            found = call(one)
            if isinstance(found, (list, dict)):
                before = copy.copy(found)
                found.clear()
                self.assertEqual(call(one), before)
                self.assertIsNot(call(one), call(one))
                count += 1
        self.assertGreater(count, 10)

    def test_plain_values(self):
        for call in CALLS:
            found = call(network())
            if isinstance(found, (tuple, dict)):
                self.assert_plain(found)


class BooksOfLargeNetworks(Case):
    """Whatever is done in a book, and whatever is undone, its answers are those of its present network."""

    def check_answers(self, book):
        one = Network(book.network.nodes, book.network.edges)
        u, v = one.nodes[0], one.nodes[-1]
        self.assertEqual(book.is_calm(), calm.is_calm(one))
        if book.is_calm():
            self.assertTrue(calm.accepts_calm(one, book.certificate()))
            path = book.shortest_path(u, v)
            if path is None:
                self.assertIsNone(book.distance(u, v))
            else:
                self.assertEqual([path.network, path.length], [one, book.distance(u, v)])
                self.assertTrue(calm.accepts_path(path, calm.join_certificate(path.edge_set)))
        else:
            self.assert_not_calm(one, book.certificate)
            self.assert_not_calm(one, book.distance, u, v)
            self.assert_not_calm(one, book.shortest_path, u, v)

    def change_somewhat(self, chance, book):
        """Changes the length of an edge, as far as possible; tells if it could be done."""
        name = chance.choice(book.network.names)
        length = book.network[name][3]
        by = cycles.fall(book.network, name) if book.is_calm() else None
        change = chance.choice([0, 1, 5] if by is None else [-by, -by // 2, -by - 1, 3])
        try:
            book.change(("length", name, length + change))
        except (NotCalm, OverflowError, ValueError):
            return False
        return True

    def test_changes_undo_and_trials(self):
        for seed, kind in enumerate((books.Book, books.CalmBook, books.CalmLoggedBook)):
            chance = random.Random(seed)
            book = kind(*brute.large_network(seed, longest=1000))
            states = [book.network]
            for _ in range(12):
                if self.change_somewhat(chance, book):
                    states.append(book.network)
                self.check_answers(book)
                with book.trial():
                    self.change_somewhat(chance, book)
                    self.check_answers(book)
                self.assertEqual(book.network, states[-1])
            self.assertGreater(len(states), 3)
            while book.undoable:
                self.assertEqual(book.network, states.pop())
                self.check_answers(book)
                book.undo()
            self.assertEqual([book.network], states)


if __name__ == "__main__":
    unittest.main()
