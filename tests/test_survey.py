"""Promise [15] and "lendroads/survey.py" in the interface."""

import random
import unittest

import brute
from tools import NO_NAMES, Case

from lendroads.distances import distance, distances
from lendroads.errors import UnknownNode
from lendroads.networks import Network
from lendroads.survey import center, farthest, nearest, table, within

N = Network(["a", "b", "c"], [("ab", "a", "b", -1), ("bc", "c", "b", 1), ("ca", "c", "a", 1)])
NOT_CALM = N.with_lengths(ca=-1)
SMALL = [(Network(nodes, edges), edges) for nodes, edges in brute.small_calm_networks(150, 8)]
PARTS = Network(list("abcdefg"), [("x", "c", "a", 5), ("y", "g", "e", -7), ("z", "f", "g", 2)])


def far_in(network, edges):
    return {(u, v): brute.distance(edges, u, v) for u in network.nodes for v in network.nodes}


class Within(Case):
    def test_example(self):
        found = [within(N, "a", 0), nearest(N, "a", "c", "b"), farthest(N), center(N)]
        self.assertEqual(found, [[(-1, "b"), (0, "a"), (0, "c")], "b", (0, "a", "c"), "a"])

    def test_limits_of_small_networks(self):
        for network, edges in SMALL:
            far = far_in(network, edges)
            for u in network.nodes[:4]:
                rows = sorted((far[u, v], v) for v in network.nodes if far[u, v] is not None)
                self.assertEqual(within(network, u, None), rows)
                self.assert_plain(within(network, u, None))
                for limit in range(rows[0][0] - 1, rows[-1][0] + 2):
                    self.assertEqual(within(network, u, limit), [row for row in rows if row[0] <= limit])

    def test_limits_at_below_and_above_the_distances(self):
        expected = [(-3, []), (-2, []), (-1, [(-1, "b")]), (0, [(-1, "b"), (0, "a"), (0, "c")]), (10 ** 59, 3)]
        for limit, rows in expected:
            found = within(N, "a", limit)
            self.assertEqual(len(found) if rows == 3 else found, rows)
        self.assertEqual(within(PARTS, "c", None), [(0, "c"), (5, "a")])
        self.assertEqual(within(PARTS, "c", 4), [(0, "c")])
        self.assertEqual(within(PARTS, "c", -1), [])
        self.assertEqual(within(PARTS, "g", -6), [(-7, "e")])
        self.assertEqual(within(PARTS, "b", None), [(0, "b")])

    def test_a_new_list_each_time(self):
        within(N, "a", None).clear()
        self.assertEqual(len(within(N, "a", None)), 3)


class Nearest(Case):
    def test_targets_of_small_networks(self):
        chance = random.Random(1)
        for network, edges in SMALL:
            far = far_in(network, edges)
            for u in network.nodes[:4]:
                for count in range(5):
                    targets = [chance.choice(network.nodes) for _ in range(count)]
                    rows = sorted((far[u, v], v) for v in targets if far[u, v] is not None)
                    self.assertEqual(nearest(network, u, *targets), rows[0][1] if rows else None)

    def test_some_targets(self):
        self.assertIsNone(nearest(N, "a"))
        self.assertIsNone(nearest(network=N, u="a"))
        self.assertEqual(nearest(N, "a", "a"), "a")
        # Another node may be nearer than the node itself.
        self.assertEqual(nearest(N, "a", "a", "b"), "b")
        self.assertEqual(nearest(N, "a", "c", "a", "c", "a"), "a")
        self.assertEqual(nearest(N, "c", "c", "a"), "a")
        self.assertEqual(nearest(PARTS, "g", "a", "b", "f"), "f")
        self.assertIsNone(nearest(PARTS, "g", "a", "b", "c"))
        self.assertEqual(nearest(PARTS, "b", "a", "b", "c", "g"), "b")


class FarthestAndCenter(Case):
    def test_small_networks(self):
        for network, edges in SMALL:
            far = far_in(network, edges)
            ranks = [(-total, u, v) for (u, v), total in far.items() if total is not None and u < v]
            best = min(ranks, default=None)
            self.assertEqual(farthest(network), best and (-best[0], *best[1:]))
            greatest = {u: max(far[u, v] for v in network.nodes if far[u, v] is not None) for u in network.nodes}
            self.assertEqual(center(network), min(network.nodes, key=lambda u: (greatest[u], u)))

    def test_without_edges(self):
        self.assertEqual([farthest(Network(["b"])), center(Network(["b"]))], [None, "b"])
        self.assertEqual([farthest(Network(["c", "b"])), center(Network(["c", "b"]))], [None, "b"])

    def test_ties(self):
        ring = Network.ring(1, 1, 1, 1)
        self.assertEqual([farthest(ring), center(ring)], [(2, "a", "c"), "a"])
        self.assertEqual([farthest(Network.chain(1, 1)), center(Network.chain(1, 1))], [(2, "a", "c"), "b"])
        self.assertEqual([farthest(Network.chain(-1, -1)), center(Network.chain(-1, -1))], [(-1, "a", "b"), "a"])
        self.assertEqual([farthest(Network.chain(0, 0)), center(Network.chain(0, 0))], [(0, "a", "b"), "a"])

    def test_several_parts(self):
        self.assertEqual(farthest(PARTS), (5, "a", "c"))
        self.assertEqual(center(PARTS), "b")
        self.assertEqual(center(PARTS.without_nodes("b")), "d")
        self.assertEqual(center(PARTS.without_nodes("b", "d")), "e")
        self.assertEqual(farthest(PARTS.without_edges("x")), (2, "f", "g"))

    def test_nodes_only_connected_by_negative_distances(self):
        self.assertEqual(farthest(Network.chain(-4)), (-4, "a", "b"))
        self.assertEqual(farthest(Network(["a", "b", "c"], [("x", "c", "b", -4)])), (-4, "b", "c"))

    def test_large_networks(self):
        for seed in range(3):
            network = Network(*brute.large_network(seed, longest=9))
            far = {u: distances(network, u) for u in network.nodes}
            greatest = {u: max(total for total in far[u].values() if total is not None) for u in far}
            self.assertEqual(center(network), min(far, key=lambda u: (greatest[u], u)))
            total, u, v = farthest(network)
            self.assertEqual(total, distance(network, u, v))
            ranks = [(-far[x][y], x, y) for x in far for y in far if x < y and far[x][y] is not None]
            self.assertEqual((-total, u, v), min(ranks))


class Table(Case):
    def test_example(self):
        self.assertEqual(table(N, "b", "a"), "   b  a\nb  0 -1\na -1  0")

    def test_widths(self):
        network = Network(["a", "long", "bb"], [("x", "a", "long", -1000), ("y", "long", "bb", 5)])
        self.assertEqual(table(network), "\n".join([
            "         a   bb  long",
            "a        0 -995 -1000",
            "bb    -995    0     5",
            "long -1000    5     0"]))
        self.assertEqual(table(network, "bb", "long"), "     bb long\nbb    0    5\nlong  5    0")
        self.assertEqual(table(network, "long"), "     long\nlong    0")
        self.assertEqual(table(network, "a"), "  a\na 0")

    def test_dashes_and_nodes_twice(self):
        self.assertEqual(table(PARTS, "a", "g", "a", "b"), "\n".join([
            "  a g a b", "a 0 - 0 -", "g - 0 - -", "a 0 - 0 -", "b - - - 0"]))
        self.assertEqual(table(PARTS, "e", "f"), "   e  f\ne  0 -5\nf -5  0")

    def test_no_node_named(self):
        for network in (N, PARTS, Network(["zz", "b"]), Network(["abc"])):
            self.assertEqual(table(network), table(network, *network.nodes))
        self.assertEqual(table(Network(["abc"])), "    abc\nabc   0")
        self.assertEqual(table(network=N), table(N, "a", "b", "c"))

    def test_small_networks(self):
        chance = random.Random(1)
        for network, edges in SMALL[:80]:
            far = far_in(network, edges)
            nodes = [chance.choice(network.nodes) for _ in range(chance.randint(1, 7))]
            lines = table(network, *nodes).split("\n")
            self.assertEqual(lines[0].split(" ")[-1], nodes[-1])
            self.assertEqual([line.split() for line in lines],
                             [nodes] + [[u, *(str(far[u, v]).replace("None", "-") for v in nodes)] for u in nodes])
            self.assertEqual(len({len(line) for line in lines}), 1)
            self.assertFalse(any(line.endswith(" ") for line in lines))

    def test_large_network(self):
        network = Network(*brute.large_network(1, longest=1000))
        lines = table(network).split("\n")
        self.assertEqual(len(lines), 41)
        for u, line in zip(network.nodes, lines[1:]):
            far = distances(network, u).values()
            self.assertEqual(line.split(), [u, *("-" if total is None else str(total) for total in far)])


class Errors(Case):
    def test_unknown_nodes_come_first(self):
        for network in (N, NOT_CALM):
            for value in [*NO_NAMES, "d", "ab"]:
                self.assertIs(self.assert_error(UnknownNode, value, within, network, value, None), value)
                self.assertIs(self.assert_error(UnknownNode, value, nearest, network, value, "zz"), value)
                self.assertIs(self.assert_error(UnknownNode, value, nearest, network, "a", "b", "b", value, "x"), value)
                self.assertIs(self.assert_error(UnknownNode, value, table, network, value), value)
                self.assertIs(self.assert_error(UnknownNode, value, table, network, "b", "b", value, None), value)

    def test_not_calm(self):
        network = NOT_CALM.with_nodes("d")
        self.assert_not_calm(network, within, network, "d", None)
        self.assert_not_calm(network, within, network, "a", 0)
        self.assert_not_calm(network, nearest, network, "a")
        self.assert_not_calm(network, nearest, network, "d", "a")
        self.assert_not_calm(network, farthest, network)
        self.assert_not_calm(network, center, network)
        self.assert_not_calm(network, table, network)
        self.assert_not_calm(network, table, network, "d")

    def test_names_of_arguments(self):
        self.assertEqual(within(network=N, u="a", limit=-1), [(-1, "b")])
        self.assertEqual([farthest(network=N), center(network=N)], [(0, "a", "c"), "a"])


if __name__ == "__main__":
    unittest.main()
