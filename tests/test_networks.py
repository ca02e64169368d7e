"""Promise [10] and "lendroads/networks.py" in the interface; [20] for Network.read and the property text."""

import inspect
import random
import unittest

import brute
from tools import DEEP, NO_NAMES, Case

from lendroads import limits
from lendroads.errors import (
    InvalidEdge, InvalidLength, InvalidNode, InvalidText, TooMany, UnknownEdge, UnknownNode)
from lendroads.networks import Network

N = Network(["a", "b", "c"], [("ab", "a", "b", -1), ("bc", "c", "b", 1), ("ca", "c", "a", 1)])
NO_LENGTHS = [
    None, True, False, 1000001, -1000001, 10 ** 59, "", "1", "a", (), (1,), [], [1], {}, {"a": 1}, DEEP]
TEXT = "node a\nnode b\nnode c\nedge ab a b -1\nedge bc b c 1\nedge ca a c 1"


def matching(count, length=-1):
    """Nodes and edges: this many edges without common ends."""
    nodes = brute.names(2 * count)
    return nodes, [(nodes[2 * at], nodes[2 * at], nodes[2 * at + 1], length) for at in range(count)]


def many_edges(count, length=1):
    return [(name, "a", "b", length) for name in brute.names(count)]


class Construction(Case):
    def test_example(self):
        found = [N.nodes, N.names, N["bc"], "ab" in N, len(N), list(N.edges_at("c"))]
        self.assertEqual(found, [
            ("a", "b", "c"), ("ab", "bc", "ca"), ("bc", "b", "c", 1), True, 3,
            [("bc", "b", "c", 1), ("ca", "a", "c", 1)]])

    def test_nodes_and_edges_in_any_order(self):
        edges = [("x", "b", "a", 5), ("a", "a", "c", -1000000), ("y", "a", "b", 1000000), ("xx", "c", "b", 0)]
        expected = (("a", "a", "c", -1000000), ("x", "a", "b", 5), ("xx", "b", "c", 0), ("y", "a", "b", 1000000))
        chance = random.Random(1)
        for _ in range(20):
            nodes = chance.sample(["a", "b", "c", "abcdefgh"], 4)
            mixed = [(name, *chance.sample([u, v], 2), length)
                     for name, u, v, length in chance.sample(edges, len(edges))]
            for kind in (list, tuple):
                network = Network(kind(nodes), kind(mixed))
                self.assertEqual(network.nodes, ("a", "abcdefgh", "b", "c"))
                self.assertEqual(network.edges, expected)
                self.assertEqual(network.names, ("a", "x", "xx", "y"))
                self.assertEqual(network.length, 5)
                self.assert_plain([network.nodes, network.edges, network.names])

    def test_edges_may_be_left_out_and_named(self):
        self.assertEqual(Network(["a"]).edges, ())
        self.assertEqual(Network(["a"]).names, ())
        self.assertEqual(Network(["a"]).length, 0)
        self.assertEqual(Network(edges=[("x", "a", "b", 1)], nodes=("b", "a")).edges, (("x", "a", "b", 1),))

    def test_limits(self):
        self.assertEqual([Network.MAX_NODES, Network.MAX_EDGES, Network.MAX_ODD], [40, 100, 10])
        self.assertEqual([limits.MAX_NODES, limits.MAX_EDGES, limits.MAX_ODD], [40, 100, 10])
        self.assertEqual(len(Network(brute.names(40), many_edges(100)).nodes), 40)

    def test_first_wrong_node(self):
        for value in NO_NAMES:
            self.assertIs(self.assert_error(InvalidNode, value, Network, ["b", value, "c", value]), value)
            self.assertIs(self.assert_error(InvalidNode, value, Network, (value, 5)), value)
        self.assert_error(InvalidNode, "b", Network, ["b", "a", "b", "A"])
        self.assert_error(InvalidNode, "A", Network, ["b", "a", "A", "b"])
        nodes = brute.names(42)
        self.assert_error(InvalidNode, nodes[40], Network, nodes)
        self.assert_error(InvalidNode, nodes[40], Network, [*nodes[:41], ""])
        self.assert_error(InvalidNode, "", Network, [*nodes[:39], "", nodes[41]])
        self.assert_error(InvalidNode, "a", Network, [*nodes[:40], "a"])

    def test_nodes_must_be_a_list_with_a_node(self):
        for value in (None, True, 1, "", "ab", "a", {}, {"a": 1}):
            self.assertIs(self.assert_error(InvalidNode, value, Network, value), value)
        self.assert_error(InvalidNode, (), Network, [])
        self.assert_error(InvalidNode, (), Network, ())

    def test_first_wrong_edge(self):
        good = ("x", "a", "b", 1)
        wrong = [
            *NO_NAMES, (), ("y", "a", "b"), ("y", "a", "b", 1, 1), ["y", "a", "b", 1], ("y", "a", "a", 1),
            ("y", "a", "c", 1), ("y", "c", "b", 1), ("x", "b", "a", 2), ("x", "a", "b", 1), (("y", "a", "b", 1),),
            {"y": ("a", "b", 1)},
            *[(value, "a", "b", 1) for value in NO_NAMES], *[("y", value, "b", 1) for value in NO_NAMES],
            *[("y", "a", value, 1) for value in NO_NAMES], *[("y", "a", "b", value) for value in NO_LENGTHS],
        ]
        for value in wrong:
            self.assertIs(self.assert_error(InvalidEdge, value, Network, ["a", "b"], [good, value, 1]), value)
            self.assertIs(self.assert_error(InvalidEdge, value, Network, ["a", "b"], (good, value)), value)

    def test_edges_must_be_a_list(self):
        for value in (None, True, 0, "", "ab", {}, {"x": 1}):
            self.assertIs(self.assert_error(InvalidEdge, value, Network, ["a"], value), value)

    def test_nodes_come_first(self):
        self.assert_error(InvalidNode, "A", Network, ["A"], 5)
        self.assert_error(InvalidNode, (), Network, [], [5])

    def test_names_of_edges_may_be_those_of_nodes(self):
        self.assertEqual(Network(["a", "b"], [("a", "a", "b", 1), ("b", "a", "b", 2)]).names, ("a", "b"))

    def test_too_many_edges(self):
        self.assertEqual(len(Network(["a", "b"], many_edges(100))), 100)
        self.assert_error(TooMany, 100, Network, ["a", "b"], many_edges(101))
        self.assert_error(TooMany, 100, Network, ["a", "b"], many_edges(150))
        self.assert_error(InvalidEdge, 5, Network, ["a", "b"], [*many_edges(101), 5])

    def test_too_many_odd_nodes(self):
        self.assertEqual(len(Network(*matching(5))), 5)
        self.assert_error(TooMany, 10, Network, *matching(6))
        self.assertEqual(len(Network(*matching(6, 0))), 6)
        nodes, edges = matching(6)
        more = [("zz", nodes[1], nodes[2], -1)]
        self.assertEqual(len(Network(nodes, [*edges, *more])), 7)
        self.assert_error(InvalidEdge, ("A",), Network, nodes, [*edges, ("A",)])
        nodes, edges = matching(20)
        edges = [*edges, *[("z" + name, nodes[0], nodes[1], 1) for name in brute.names(80)]]
        self.assert_error(TooMany, 10, Network, nodes, edges)
        self.assert_error(TooMany, 100, Network, nodes, [*edges, ("zzzz", nodes[0], nodes[1], 1)])

    def test_lists_are_copied(self):
        nodes = ["a", "b"]
        edges = [("x", "a", "b", 1)]
        network = Network(nodes, edges)
        nodes.append("c")
        edges.append(("y", "a", "b", 1))
        nodes[0] = "z"
        edges[0] = ("w", "a", "b", 1)
        self.assertEqual([network.nodes, network.edges], [("a", "b"), (("x", "a", "b", 1),)])
        self.assertEqual([network["x"], "w" in network, len(network)], [("x", "a", "b", 1), False, 1])

    def test_properties_are_not_assigned(self):
        for name in ("nodes", "edges", "names", "length", "text"):
            with self.assertRaises(AttributeError):
                setattr(N, name, ())


class Shapes(Case):
    def test_ring(self):
        self.assertEqual(
            Network.ring(2, -1, 3).edges, (("ea", "a", "b", 2), ("eb", "b", "c", -1), ("ec", "a", "c", 3)))
        self.assertEqual(Network.ring(5, 0).edges, (("ea", "a", "b", 5), ("eb", "a", "b", 0)))
        self.assertEqual(Network.ring(5, 0).nodes, ("a", "b"))
        ring = Network.ring(*range(26))
        self.assertEqual(ring.nodes, tuple(brute.LETTERS))
        self.assertEqual(ring["ez"], ("ez", "a", "z", 25))
        self.assertEqual(ring["ey"], ("ey", "y", "z", 24))

    def test_chain(self):
        self.assertEqual(Network.chain(2, -1).edges, (("ea", "a", "b", 2), ("eb", "b", "c", -1)))
        self.assertEqual(Network.chain(2, -1).nodes, ("a", "b", "c"))
        self.assertEqual([Network.chain().nodes, Network.chain().edges], [("a",), ()])
        chain = Network.chain(*range(25))
        self.assertEqual(chain.nodes, tuple(brute.LETTERS))
        self.assertEqual([chain["ey"], len(chain)], [("ey", "y", "z", 24), 25])

    def test_wrong_lengths(self):
        for value in NO_LENGTHS:
            for made in (Network.ring, Network.chain):
                self.assertIs(self.assert_error(InvalidLength, value, made, 0, value, "x"), value)
                self.assertIs(self.assert_error(InvalidLength, value, made, *([1] * 30), value), value)
            self.assert_error(InvalidLength, (value,), Network.ring, value)
            self.assertIs(self.assert_error(InvalidLength, value, Network.chain, value), value)
        self.assert_error(InvalidLength, (), Network.ring)
        self.assert_error(InvalidLength, (5,), Network.ring, 5)

    def test_too_many(self):
        self.assert_error(TooMany, 26, Network.ring, *range(27))
        self.assert_error(TooMany, 26, Network.chain, *range(26))
        self.assert_error(TooMany, 26, Network.chain, *range(200))
        self.assert_error(TooMany, 26, Network.ring, *([-1, 1] * 14))
        self.assert_error(TooMany, 26, Network.chain, *([-1, 1] * 13))
        self.assert_error(TooMany, 10, Network.ring, *([-1, 1] * 6))
        self.assert_error(TooMany, 10, Network.chain, *([-1, 1] * 6))
        self.assertEqual(len(Network.ring(*([-1, 1] * 5))), 10)
        self.assertEqual(len(Network.ring(*([-1] * 26))), 26)


class Reading(Case):
    def test_contains_any_value(self):
        for value in [*NO_NAMES, "a", "abc", "b"]:
            self.assertIs(value in N, False)
        for name in N.names:
            self.assertIs(name in N, True)

    def test_edge_by_its_name(self):
        for edge in N.edges:
            self.assertEqual(N[edge[0]], edge)
        for value in [*NO_NAMES, "a", "zz"]:
            self.assertIs(self.assert_error(UnknownEdge, value, lambda value=value: N[value]), value)

    def test_a_network_is_not_iterated_over(self):
        with self.assertRaises(TypeError):
            list(N)

    def test_len(self):
        self.assertEqual([len(Network(["a"])), len(Network.chain(1)), len(Network.ring(*range(26)))], [0, 1, 26])

    def test_equality(self):
        same = Network(("c", "b", "a"), (("ca", "a", "c", 1), ("ab", "b", "a", -1), ("bc", "b", "c", 1)))
        self.assertIs(N == same, True)
        self.assertIs(N != same, False)
        others = [
            N.with_nodes("d"), N.without_edges("ab"), N.with_lengths(ab=1), Network(N.nodes), Network(["a"]),
            Network(N.nodes, [("ab", "a", "c", -1), *N.edges[1:]]), Network(N.nodes, [("x", "a", "b", -1),
                                                                                    *N.edges[1:]])]
        for other in others:
            self.assertIs(N == other, False)
            self.assertIs(N != other, True)
        for other in [*NO_NAMES, N.edges, N.nodes, N.text, (N.nodes, N.edges)]:
            self.assertIs(N == other, False)
            self.assertIs(other == N, False)

    def test_edges_at(self):
        for nodes, edges in brute.small_networks(50, 12):
            network = Network(nodes, edges)
            for node in nodes:
                expected = [edge for edge in network.edges if node in edge[1:3]]
                self.assertEqual(list(network.edges_at(node)), expected)
        self.assertTrue(inspect.isgenerator(N.edges_at("a")))
        self.assertEqual(list(N.edges_at(node="b")), [N["ab"], N["bc"]])

    def test_edges_at_raises_when_it_is_iterated(self):
        for value in [*NO_NAMES, "d", "ab"]:
            edges = N.edges_at(value)
            self.assertIs(self.assert_error(UnknownNode, value, list, edges), value)

    def test_parts(self):
        for nodes, edges in brute.small_networks(200, 6):
            network = Network(nodes, edges)
            self.assertEqual(network.parts(), brute.parts_of(network.nodes, network.edges))
            self.assert_plain(network.parts())
        nodes, edges = brute.large_network(1, edge_count=30)
        self.assertEqual(Network(nodes, edges).parts(), brute.parts_of(nodes, edges))
        first = N.parts()
        first.clear()
        self.assertEqual(N.parts(), [("a", "b", "c")])


class Changed(Case):
    def test_with_nodes(self):
        self.assertEqual(N.with_nodes("e", "aa").nodes, ("a", "aa", "b", "c", "e"))
        self.assertEqual(N.with_nodes("e", "aa").edges, N.edges)
        self.assertEqual(N.with_nodes(), N)
        self.assertEqual(N.nodes, ("a", "b", "c"))
        for value in [*NO_NAMES, "a", "c", "e"]:
            self.assertIs(self.assert_error(InvalidNode, value, N.with_nodes, "e", value, "A"), value)
        new = ["z" + name for name in brute.names(39)]
        self.assertEqual(len(N.with_nodes(*new[:37]).nodes), 40)
        self.assert_error(InvalidNode, new[37], N.with_nodes, *new)

    def test_with_edges(self):
        more = N.with_edges(("b", "c", "a", -2), ("z", "a", "b", 3))
        self.assertEqual(more.edges, (N["ab"], ("b", "a", "c", -2), N["bc"], N["ca"], ("z", "a", "b", 3)))
        self.assertEqual(more.nodes, N.nodes)
        self.assertEqual(N.with_edges(), N)
        self.assertEqual(len(N), 3)
        wrong = [*NO_NAMES, ["x", "a", "b", 1], ("x", "a", "b"), ("x", "a", "d", 1), ("x", "a", "a", 1),
                 ("ab", "a", "c", 1), ("x", "a", "b", True), ("x", "a", "b", 1000001), ("z", "a", "b", 1)]
        for value in wrong:
            found = self.assert_error(InvalidEdge, value, N.with_edges, ("z", "a", "b", 1), value, 5)
            self.assertIs(found, value)
        new = [("z" + name, "a", "b", 1) for name in brute.names(98)]
        self.assertEqual(len(N.with_edges(*new[:97])), 100)
        self.assert_error(TooMany, 100, N.with_edges, *new)
        self.assert_error(InvalidEdge, 5, N.with_edges, *new, 5)
        nodes, edges = matching(6)
        self.assert_error(TooMany, 10, Network(nodes, edges[:5]).with_edges, edges[5])

    def test_without_nodes(self):
        self.assertEqual(N.without_nodes("b"), Network(["a", "c"], [N["ca"]]))
        self.assertEqual(N.without_nodes("c", "a"), Network(["b"]))
        self.assertEqual(N.without_nodes(), N)
        for value in [*NO_NAMES, "d", "ab", "b"]:
            self.assertIs(self.assert_error(UnknownNode, value, N.without_nodes, "b", value, "x"), value)
        self.assert_error(InvalidNode, (), N.without_nodes, "a", "b", "c")
        self.assert_error(UnknownNode, "d", N.without_nodes, "a", "b", "c", "d")
        self.assert_error(UnknownNode, "a", N.without_nodes, "a", "b", "c", "a")

    def test_without_nodes_and_more_odd_nodes(self):
        nodes, edges = matching(6)
        spokes = [("h" + node, "hub", node, -1) for node in nodes[:4]]
        network = Network([*nodes, "hub"], [*edges, *spokes])
        self.assert_error(TooMany, 10, network.without_nodes, "hub")
        self.assert_error(UnknownNode, "hub", network.without_nodes, "hub", "hub")
        self.assertEqual(network.without_nodes("hub", nodes[0]), Network(nodes[1:], edges[1:]))

    def test_without_edges(self):
        self.assertEqual(N.without_edges("ab", "ca"), Network(N.nodes, [N["bc"]]))
        self.assertEqual(N.without_edges(), N)
        for value in [*NO_NAMES, "a", "zz", "bc"]:
            self.assertIs(self.assert_error(UnknownEdge, value, N.without_edges, "bc", value, "x"), value)
        nodes, edges = matching(6)
        joined = Network(nodes, [*edges, ("zz", nodes[1], nodes[2], -1)])
        self.assert_error(TooMany, 10, joined.without_edges, "zz")
        self.assert_error(UnknownEdge, "zz", joined.without_edges, "zz", "zz")

    def test_with_lengths(self):
        self.assertEqual(N.with_lengths(ab=5, ca=-1000000).edges, (
            ("ab", "a", "b", 5), ("bc", "b", "c", 1), ("ca", "a", "c", -1000000)))
        self.assertEqual(N.with_lengths(), N)
        self.assertEqual(N["ab"], ("ab", "a", "b", -1))
        self.assert_error(UnknownEdge, "zz", N.with_lengths, ab=0, zz=1)
        self.assert_error(UnknownEdge, "zz", N.with_lengths, ab="x", zz=1)
        self.assert_error(UnknownEdge, "yy", N.with_lengths, yy=None, ab="x", zz=1)
        for value in NO_LENGTHS:
            found = self.assert_error(InvalidLength, value, N.with_lengths, bc=3, ab=value, ca="x")
            self.assertIs(found, value)

    def test_with_lengths_and_more_odd_nodes(self):
        nodes, edges = matching(7, 0)
        network = Network(nodes, edges)
        lengths = {edge[0]: -1 for edge in edges}
        self.assert_error(TooMany, 10, network.with_lengths, **lengths)
        self.assert_error(InvalidLength, True, network.with_lengths, **{**lengths, "a": True})
        del lengths["a"], lengths["c"]
        self.assertEqual(network.with_lengths(**lengths).length, -5)

    def test_lengths_of_a_dict(self):
        network = Network(["a", "b"], [("self", "a", "b", 1), ("x", "a", "b", 1)])
        lengths = {"self": 4}
        self.assertEqual(network.with_listed_lengths(lengths)["self"], ("self", "a", "b", 4))
        self.assertEqual(lengths, {"self": 4})

    def test_any_edge_name_but_self_is_a_keyword(self):
        edges = [(name, "a", "b", 1) for name in ("lengths", "network", "names", "nodes", "edges", "cls")]
        network = Network(["a", "b"], edges)
        self.assertEqual(network.with_lengths(**{edge[0]: 2 for edge in edges}).length, 12)

    def test_a_raising_call_changes_nothing(self):
        before = N.text
        for call in (lambda: N.with_nodes("d", "d"), lambda: N.with_edges(("x", "a", "b", 1), 5),
                     lambda: N.without_nodes("a", "z"), lambda: N.without_edges("ab", "z"),
                     lambda: N.with_lengths(ab=1, bc=None)):
            with self.assertRaises(Exception):
                call()
            self.assertEqual(N.text, before)


class Texts(Case):
    def test_text(self):
        self.assertEqual(N.text, TEXT)
        self.assertEqual(Network(["b", "a"]).text, "node a\nnode b")

    def test_read(self):
        self.assertEqual(Network.read(TEXT), N)
        self.assertEqual(Network.read(text="node x").nodes, ("x",))
        for nodes, edges in brute.small_networks(50, 10):
            network = Network(nodes, edges)
            again = Network.read(network.text)
            self.assertEqual(again, network)
            self.assertEqual(again.text, network.text)
        large = Network(*brute.large_network(2))
        self.assertEqual(Network.read(large.text), large)

    def test_wrong_texts(self):
        for value in [*NO_NAMES, N]:
            self.assert_error(InvalidText, 0, Network.read, value)
        self.assert_error(InvalidText, 6, Network.read, TEXT + "\n")
        self.assert_error(InvalidText, 1, Network.read, TEXT.replace("node b", "node a"))
        self.assert_error(InvalidText, 3, Network.read, TEXT.replace("a b -1", "b a -1"))
        self.assert_error(InvalidText, 4, Network.read, TEXT.replace("b c 1", "b c 01"))
        nodes, edges = matching(6)
        text = Network(nodes, edges[:5]).text + "\nedge k k l -1"
        self.assert_error(InvalidText, 18, Network.read, text)


if __name__ == "__main__":
    unittest.main()
