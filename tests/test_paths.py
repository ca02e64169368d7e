"""Promise [11] and "lendroads/paths.py" in the interface."""

import inspect
import unittest

import brute
from tools import NO_NAMES, Case

from lendroads.edgesets import EdgeSet
from lendroads.errors import NotJoined, NotPath, OtherNetwork, OutOfRange, TooMany, UnknownEdge, UnknownNode
from lendroads.networks import Network
from lendroads.paths import Path, all_cycles, all_paths

N = Network(["a", "b", "c"], [("ab", "a", "b", -1), ("bc", "c", "b", 1), ("ca", "c", "a", 1)])
SAME = Network(["c", "b", "a"], [("bc", "b", "c", 1), ("ca", "c", "a", 1), ("ab", "a", "b", -1)])
CHAIN = Network.chain(*range(1, 10))


class Construction(Case):
    def test_example(self):
        path = Path(N, "a", "ab", "bc")
        found = [path.end, path.nodes, path.length, (-path).edges, path[1], path.rank]
        self.assertEqual(found, ["c", ("a", "b", "c"), 0, ("bc", "ab"), "b", (0, 2, "a", ("ab", "bc"))])
        self.assert_error(NotPath, 1, Path, N, "a", "ab", "ca")

    def test_all_paths_of_small_networks(self):
        for nodes, edges in brute.small_networks(40, 8):
            network = Network(nodes, edges)
            for u in nodes[:2]:
                for v in nodes:
                    for edges_in_order in brute.paths_of(network.edges, u, v):
                        path = Path(network, u, *brute.names_in(edges_in_order))
                        self.check(path, network, u, v, edges_in_order)

    def check(self, path, network, u, v, edges):
        self.assertEqual([path.start, path.end, path.edges], [u, v, brute.names_in(edges)])
        self.assertEqual(path.length, brute.length_of(edges))
        self.assertEqual(path.rank, (path.length, len(edges), u, brute.names_in(edges)))
        self.assertEqual(path.edge_set, EdgeSet(network, *brute.names_in(edges)))
        self.assertIs(path.network, network)
        self.assertEqual([path.nodes[0], path.nodes[-1], len(path.nodes)], [u, v, len(edges) + 1])
        for at, edge in enumerate(edges):
            self.assertEqual({path.nodes[at], path.nodes[at + 1]}, set(edge[1:3]))
            self.assertEqual(path[at], path.nodes[at])
        self.assertEqual([len(path), bool(path)], [len(edges), len(edges) > 0])
        self.assert_plain([path.nodes, path.edges, path.rank])

    def test_from_a_node_to_itself(self):
        path = Path(network=N, start="b")
        self.assertEqual([path.nodes, path.edges, path.start, path.end, path.length], [("b",), (), "b", "b", 0])
        self.assertEqual([len(path), bool(path), path.rank, path[0]], [0, False, (0, 0, "b", ()), "b"])
        self.assertEqual(path.edge_set, EdgeSet(N))

    def test_errors_in_their_order(self):
        for value in [*NO_NAMES, "d", "ab"]:
            self.assertIs(self.assert_error(UnknownNode, value, Path, N, value, "zz"), value)
            self.assertIs(self.assert_error(UnknownNode, value, Path.along, N, value, ["zz"]), value)
        for value in [*NO_NAMES, "a", "zz"]:
            self.assertIs(self.assert_error(UnknownEdge, value, Path, N, "a", "bc", value, "x"), value)
            self.assertIs(self.assert_error(UnknownEdge, value, Path.along, N, "a", ["bc", value]), value)

    def test_index_of_the_first_edge_that_does_not_go_on(self):
        self.assert_error(NotPath, 0, Path, N, "a", "bc")
        self.assert_error(NotPath, 1, Path, N, "a", "ab", "ab")
        self.assert_error(NotPath, 2, Path, N, "a", "ab", "bc", "ca")
        self.assert_error(NotPath, 2, Path, N, "a", "ab", "bc", "ca", "ab")
        self.assert_error(NotPath, 3, Path, CHAIN, "a", "ea", "eb", "ec", "ee", "ed")
        two = Network(["a", "b"], [("x", "a", "b", 1), ("y", "a", "b", 1)])
        self.assert_error(NotPath, 1, Path, two, "a", "x", "y")

    def test_along(self):
        names = ["ab", "bc"]
        path = Path.along(N, "a", names)
        names.pop()
        self.assertEqual(path, Path(N, "a", "ab", "bc"))
        self.assertEqual(Path.along(network=N, start="a", edges=()), Path(N, "a"))
        self.assert_error(NotPath, 1, Path.along, N, "a", ("ab", "ca"))

    def test_properties_are_not_assigned(self):
        for name in ("network", "start", "end", "nodes", "edges", "length", "edge_set", "rank"):
            with self.assertRaises(AttributeError):
                setattr(Path(N, "a"), name, ())


class Operators(Case):
    def test_one_and_then_the_other(self):
        for first in range(10):
            for middle in range(first, 10):
                for last in range(middle, 10):
                    one = Path.along(CHAIN, brute.LETTERS[first], CHAIN.names[first:middle])
                    other = Path.along(CHAIN, brute.LETTERS[middle], CHAIN.names[middle:last])
                    both = Path.along(CHAIN, brute.LETTERS[first], CHAIN.names[first:last])
                    self.assertEqual(one + other, both)
                    self.assertIs(type(one + other), Path)
                    self.assertEqual(-both, -other + -one)
                    self.assertEqual(-(-both), both)

    def test_errors_of_a_sum(self):
        path = Path(N, "a", "ab")
        for network in (N.with_nodes("d"), N.with_lengths(ab=0)):
            with self.assertRaises(OtherNetwork):
                path + Path(network, "c")
            with self.assertRaises(OtherNetwork):
                path + Path(network, "b", "bc")
        with self.assertRaises(NotJoined):
            path + Path(N, "c", "ca")
        with self.assertRaises(NotJoined):
            path + Path(N, "a")
        self.assert_error(NotPath, 1, lambda: path + -path)
        self.assert_error(NotPath, 2, lambda: path + Path(N, "b", "bc", "ca"))
        self.assertEqual(path + Path(SAME, "b", "bc"), Path(N, "a", "ab", "bc"))
        self.assertEqual(path, Path(N, "a", "ab"))

    def test_backwards(self):
        back = -Path(N, "a", "ab", "bc")
        self.assertEqual([back.start, back.end, back.edges, back.nodes], ["c", "a", ("bc", "ab"), ("c", "b", "a")])
        self.assertEqual(-Path(N, "a"), Path(N, "a"))

    def test_equality(self):
        path = Path(N, "a", "ab", "bc")
        self.assertIs(path == Path(SAME, "a", "ab", "bc"), True)
        self.assertIs(path != Path(SAME, "a", "ab", "bc"), False)
        others = [-path, Path(N, "a", "ab"), Path(N, "a"), Path(N.with_nodes("d"), "a", "ab", "bc"),
                  Path(N.with_lengths(ca=2), "a", "ab", "bc")]
        for other in others:
            self.assertIs(path == other, False)
            self.assertIs(path != other, True)
        self.assertIs(Path(N, "a") == Path(N, "b"), False)
        self.assertIs(Path(N, "a", "ab") == Path(N, "b", "ab"), False)
        two = Network(["a", "b"], [("x", "a", "b", 1), ("y", "a", "b", 1)])
        self.assertIs(Path(two, "a", "x") == Path(two, "a", "y"), False)
        for value in [*NO_NAMES, path.rank, path.edges, path.edge_set, N, "ab"]:
            self.assertIs(path == value, False)
            self.assertIs(value == path, False)

    def test_contains_any_value(self):
        path = Path(N, "a", "ab", "bc")
        for value in [*NO_NAMES, "ca", "a", "zz"]:
            self.assertIs(value in path, False)
        self.assertIs("ab" in path and "bc" in path, True)

    def test_node_with_an_index(self):
        path = Path(N, "a", "ab", "bc")
        self.assertEqual([path[0], path[1], path[2]], ["a", "b", "c"])
        wrong = [None, True, False, -1, -3, 3, 4, 10 ** 59, -10 ** 59, "", "0", "a", (), (0,), [], [0], {}, {0: 0}]
        for value in wrong:
            self.assertIs(self.assert_error(OutOfRange, value, lambda value=value: path[value]), value)
        self.assert_error(OutOfRange, 1, lambda: Path(N, "a")[1])

    def test_a_path_is_not_iterated_over(self):
        with self.assertRaises(TypeError):
            list(Path(N, "a", "ab"))


def star_of_paths(count):
    """A network with this many paths from a to b, two edges each, and a part that no path leads to."""
    nodes = ["a", "b", "zz", *["n" + name for name in brute.names(count)]]
    edges = [(side + node, side, node, at) for side in ("a", "b") for at, node in enumerate(nodes[3:])]
    return Network(nodes, edges)


def double_chain(count):
    """A chain of pairs of edges: each path goes along one edge of each pair."""
    letters = brute.LETTERS
    return Network(list(letters[:count + 1]), [
        (side + letters[at], letters[at], letters[at + 1], length)
        for at in range(count) for side, length in (("x", 0), ("y", 2 ** at))])


class AllPaths(Case):
    def test_example(self):
        self.assertEqual([path.edges for path in all_paths(N, "a", "c")], [("ab", "bc"), ("ca",)])

    def test_small_networks(self):
        for nodes, edges in brute.small_networks(80, 10):
            network = Network(nodes, edges)
            for v in nodes:
                paths = brute.paths_of(network.edges, "a", v)
                ranks = [(brute.length_of(path), len(path), "a", brute.names_in(path)) for path in paths]
                found = list(all_paths(network, "a", v))
                self.assertEqual([path.rank for path in found], sorted(ranks))
                self.assertTrue(all([type(path) is Path and path.network == network for path in found]))

    def test_order(self):
        network = Network(["a", "b", "c"], [
            ("z", "a", "c", 1), ("y", "a", "c", 1), ("x", "a", "b", 1), ("w", "b", "c", 0), ("v", "b", "c", -2)])
        found = [path.edges for path in all_paths(network, "a", "c")]
        self.assertEqual(found, [("x", "v"), ("y",), ("z",), ("x", "w")])

    def test_from_a_node_to_itself_and_to_another_part(self):
        self.assertEqual(list(all_paths(N, "a", "a")), [Path(N, "a")])
        self.assertEqual(list(all_paths(N, "a", "a", most=1)), [Path(N, "a")])
        self.assertEqual(list(all_paths(N.with_nodes("d"), "a", "d")), [])

    def test_unknown_nodes(self):
        for value in [*NO_NAMES, "d", "ab"]:
            self.assertIs(self.assert_error(UnknownNode, value, list, all_paths(N, value, "zz", most=1)), value)
            self.assertIs(self.assert_error(UnknownNode, value, list, all_paths(N, "a", value, most=1)), value)

    def test_most(self):
        network = star_of_paths(7)
        for most in (7, 8, 1000, 5000):
            self.assertEqual(len(list(all_paths(network, "a", "b", most=most))), 7)
        for most in range(1, 7):
            self.assert_error(TooMany, most, next, all_paths(network, "a", "b", most=most))
        self.assert_error(TooMany, 1, next, all_paths(network, "a", "b", most=1))
        self.assertEqual(len(list(all_paths(double_chain(9), "a", "j"))), 512)
        self.assertEqual(len(list(all_paths(double_chain(10), "a", "k", most=1024))), 1024)
        self.assert_error(TooMany, 1000, next, all_paths(double_chain(10), "a", "k"))

    def test_thousands(self):
        network = double_chain(12)
        found = list(all_paths(network, "a", "m", most=5000))
        self.assertEqual([path.length for path in found], list(range(4096)))
        self.assert_error(TooMany, 4095, next, all_paths(network, "a", "m", most=4095))
        self.assert_error(TooMany, 5000, next, all_paths(double_chain(13), "a", "n", most=5000))

    def test_large_networks(self):
        for seed in range(5):
            network = Network(*brute.large_network(seed))
            part = max(network.parts(), key=len)
            self.assert_error(TooMany, 5000, next, all_paths(network, part[0], part[-1], most=5000))
            self.assert_error(TooMany, 5000, next, all_cycles(network, most=5000))

    def test_generators(self):
        self.assertTrue(inspect.isgenerator(all_paths(N, "a", "c")))
        self.assertTrue(inspect.isgenerator(all_cycles(N)))
        with self.assertRaises(TypeError):
            all_paths(N, "a", "c", 5)
        with self.assertRaises(TypeError):
            all_cycles(N, 5)
        self.assertEqual(len(list(all_paths(network=N, u="a", v="c", most=2))), 2)
        self.assertEqual(len(list(all_cycles(network=N, most=2))), 1)


class AllCycles(Case):
    def test_small_networks(self):
        for nodes, edges in brute.small_networks(80, 10):
            network = Network(nodes, edges)
            cycles = brute.cycles_of(network.edges)
            expected = sorted([(brute.length_of(cycle), len(cycle), brute.names_in(cycle)) for cycle in cycles])
            found = list(all_cycles(network))
            self.assertEqual([(cycle.length, len(cycle), cycle.names) for cycle in found], expected)
            self.assertTrue(all([type(cycle) is EdgeSet and cycle.network == network for cycle in found]))

    def test_order(self):
        network = Network(["a", "b", "c"], [
            ("z", "a", "c", 1), ("y", "a", "c", 1), ("x", "a", "b", 1), ("w", "b", "c", 0), ("v", "b", "c", -2)])
        self.assertEqual([cycle.names for cycle in all_cycles(network)], [
            ("v", "w"), ("v", "x", "y"), ("v", "x", "z"), ("y", "z"), ("w", "x", "y"), ("w", "x", "z")])

    def test_none(self):
        self.assertEqual(list(all_cycles(CHAIN)), [])
        self.assertEqual(list(all_cycles(Network(["a"]), most=1)), [])

    def test_most(self):
        parallel = Network(["a", "b"], [(name, "a", "b", 1) for name in brute.names(100)])
        self.assertEqual(len(list(all_cycles(parallel, most=4950))), 4950)
        self.assertEqual(len(list(all_cycles(parallel, most=5000))), 4950)
        self.assert_error(TooMany, 4949, next, all_cycles(parallel, most=4949))
        self.assert_error(TooMany, 1000, next, all_cycles(parallel))
        self.assert_error(TooMany, 1, next, all_cycles(parallel, most=1))
        some = Network(["a", "b"], [(name, "a", "b", 1) for name in brute.names(4)])
        self.assertEqual(len(list(all_cycles(some, most=6))), 6)
        self.assert_error(TooMany, 5, next, all_cycles(some, most=5))


if __name__ == "__main__":
    unittest.main()
