"""Promises [4], [13], [14] and "lendroads/calm.py" in the interface."""

import itertools
import random
import unittest

import brute
from tools import NO_NAMES, Case

from lendroads.calm import (
    accepts_calm, accepts_join, accepts_path, calm_certificate, is_calm, join_certificate, negative_cycle)
from lendroads.edgesets import EdgeSet
from lendroads.errors import NotLeast, TooMany
from lendroads.networks import Network
from lendroads.paths import Path, all_cycles, all_paths

N = Network(["a", "b", "c"], [("ab", "a", "b", -1), ("bc", "c", "b", 1), ("ca", "c", "a", 1)])
SAME = Network(["c", "b", "a"], [("bc", "b", "c", 1), ("ca", "c", "a", 1), ("ab", "a", "b", -1)])


def small(count, most_edges):
    for nodes, edges in brute.small_networks(count, most_edges):
        yield Network(nodes, edges)


class CalmCase(Case):
    def check_certificate(self, network, value, turned=()):
        edges = brute.turned(network.edges, turned)
        self.assertIs(type(value), list)
        self.assert_plain(value)
        self.assertTrue(all([type(entry) is tuple and len(entry) == 2 and entry[1] <= 10 ** 60 for entry in value]))
        self.assertTrue(brute.is_certificate(network.nodes, edges, value))
        self.assertTrue(brute.is_nested(value))

    def check_network(self, network, calm):
        self.assertIs(is_calm(network), calm)
        if calm:
            self.assertIsNone(negative_cycle(network))
            self.check_certificate(network, calm_certificate(network))
            self.assertIs(accepts_calm(network, calm_certificate(network)), True)
        else:
            self.check_negative_cycle(network, negative_cycle(network))
            self.assert_not_calm(network, calm_certificate, network)


class CalmNetworks(CalmCase):
    def test_example(self):
        found = [is_calm(N), negative_cycle(N), accepts_calm(N, [(("b",), 2)]), accepts_calm(N, calm_certificate(N))]
        self.assertEqual(found, [True, None, True, True])
        self.assertEqual(negative_cycle(N.with_lengths(ca=-1)).names, ("ab", "bc", "ca"))

    def test_small_networks(self):
        calm = [brute.is_calm(network.edges) for network in small(400, 9)]
        self.assertTrue(100 < sum(calm) < 300)
        for network, expected in zip(small(400, 9), calm):
            self.check_network(network, expected)

    def test_small_networks_with_many_odd_nodes(self):
        calm = []
        for seed in range(40):
            network = Network(*brute.many_odd_nodes(seed))
            calm.append(brute.is_calm(network.edges))
            self.check_network(network, calm[-1])
        self.assertTrue(5 < sum(calm) < 35)

    def test_few_edges(self):
        self.check_network(Network(["a"]), True)
        self.assertEqual(calm_certificate(Network(["b", "a"])), [])
        self.check_network(Network.chain(-5, -7, 0, 3), True)
        for lengths, calm in [((-1, 1), True), ((-1, 0), False), ((0, 0), True), ((-1, -1), False), ((-2, 1), False),
                              ((-1, -1, 2), True), ((-1, -1, 1), False), ((0, 0, 0), True), ((-3, 1, 1, 1), True)]:
            self.check_network(Network.ring(*lengths), calm)

    def test_longest_lengths(self):
        edges = [(name, "a", "b", 1000000) for name in brute.names(99)]
        self.check_network(Network(["a", "b"], [*edges, ("zz", "a", "b", -1000000)]), True)
        self.check_network(Network.ring(*[-1000000] * 26), False)
        self.check_network(Network.ring(*[-1000000] * 13, *[1000000] * 13), True)
        self.check_network(Network.ring(*[-1000000] * 13, 999999, *[1000000] * 12), False)
        self.check_network(Network.chain(*[-1000000] * 25), True)

    def test_several_parts(self):
        one = brute.large_network(5, 8, 14, 4)
        two = brute.large_network(6, 8, 14, 6)
        for other, calm in [(two, True), (brute.large_network(6, 8, 14, 6, calm=False), False)]:
            nodes = [side + node for side in "xy" for node in one[0]]
            edges = [(side + name, side + u, side + v, length)
                     for side, part in (("x", one), ("y", other)) for name, u, v, length in part[1]]
            self.check_network(Network(nodes, edges), calm)

    def test_large_calm_networks(self):
        for seed in range(24):
            longest = (2, 9, 1000, 1000000)[seed & 3]
            network = Network(*brute.large_network(seed, 40 - seed, odd_count=10 - 2 * (seed % 3), longest=longest))
            self.check_network(network, True)

    def test_large_calm_networks_with_lengths_0(self):
        count = 0
        for seed in range(12):
            nodes, edges = brute.large_network(seed, odd_count=4, shortest=0, longest=3)
            if brute.has_few_odd_nodes(edges):
                self.check_network(Network(nodes, edges), True)
                count += 1
        self.assertGreater(count, 5)

    def test_large_networks_that_are_mostly_not_calm(self):
        calm = []
        for seed in range(12):
            network = Network(*brute.large_network(seed, 40 - seed, calm=False))
            # Each answer is shown here by a certificate or a cycle, so either may be expected.
            calm.append(is_calm(network))
            self.check_network(network, calm[-1])
        self.assertLess(sum(calm), 4)

    def test_a_little_too_short(self):
        for seed in range(12):
            network = Network(*brute.large_network(seed, 12, 20, longest=5))
            for name in random.Random(seed).sample(network.names, 4):
                through = [cycle.length for cycle in all_cycles(network, most=5000) if name in cycle]
                if through:
                    self.check_shortened(network, name, min(through))

    def check_shortened(self, network, name, by):
        _, u, v, length = network[name]
        others = [edge for edge in network.edges if edge[0] != name]
        for change, calm in ((by, True), (by + 1, False)):
            edges = [*others, (name, u, v, length - change)]
            if brute.has_few_odd_nodes(edges):
                self.check_network(Network(network.nodes, edges), calm)

    def test_equal_calls(self):
        self.assertEqual(calm_certificate(N), calm_certificate(SAME))
        for seed in range(8):
            nodes, edges = brute.large_network(seed, calm=seed < 4)
            one = Network(nodes, edges)
            other = Network(nodes[::-1], [(name, v, u, length) for name, u, v, length in edges[::-1]])
            self.assertEqual(negative_cycle(one), negative_cycle(other))
            if is_calm(one):
                self.assertEqual(calm_certificate(one), calm_certificate(other))

    def test_lists_belong_to_the_caller(self):
        first = calm_certificate(N)
        first.clear()
        self.assertEqual(calm_certificate(N), [(("b",), 2)])


class Checker(CalmCase):
    def test_every_short_list_of_small_networks(self):
        networks = [
            N, N.with_lengths(ca=0), N.with_lengths(ab=-2), N.with_lengths(ab=0, bc=0), N.without_edges("bc"),
            Network(["a", "b"], [("x", "a", "b", -1), ("y", "a", "b", 1), ("z", "a", "b", 2)]),
            Network.chain(-1, -1), Network.chain(-1, 1, -1), Network.ring(-1, -1, 1), Network.ring(-1, -1, 2),
            Network.ring(-1, 1, -1, 1)]
        accepted = 0
        for network in networks:
            entries = [(some, amount) for some in brute.subsets(network.nodes) for amount in (1, 2, 4)]
            for count in range(4 if len(network.nodes) < 4 else 3):
                for value in itertools.combinations_with_replacement(entries, count):
                    expected = brute.is_certificate(network.nodes, network.edges, value)
                    self.assertIs(accepts_calm(network, list(value)), expected)
                    accepted += expected
        self.assertGreater(accepted, 100)

    def test_no_certificate_of_a_network_that_is_not_calm(self):
        for network in (Network.ring(-1, -1, 1), Network.ring(-2, 1), Network.ring(-1, -1), Network.ring(-1, 0)):
            entries = [(some, amount) for some in brute.subsets(network.nodes) for amount in (1, 2, 3, 4)]
            for count in range(4):
                for value in itertools.combinations_with_replacement(entries, count):
                    self.assertIs(accepts_calm(network, list(value)), False)

    def test_any_value(self):
        # With these edges turned, no list is a certificate.
        edge_set = EdgeSet(N, "ca")
        path = Path(N, "a", "ca")
        for value in [*NO_NAMES, "b", 2, [], (("b",), 2), (("b",),), ("b",)]:
            lists = [value, [value], [(("b",), 2), value], [(value, 2)], [(("b",), value)], [((value,), 2)],
                     [(("b", value), 2)], [(("b",), 2, value)]]
            for checked in lists:
                self.assertIs(accepts_calm(N, checked), checked in ([(("a",), 2)], [(("b",), 2)]), checked)
                self.assertIs(accepts_join(edge_set, checked), False)
                self.assertIs(accepts_path(path, checked), False)

    def test_forms(self):
        good = [(("b",), 1), (("b",), 1)]
        self.assertIs(accepts_calm(N, good), True)
        self.assertIs(accepts_calm(N, good[::-1]), True)
        self.assertIs(accepts_calm(N, [(("a", "c"), 2)]), True)
        wrong = [
            tuple(good), ((("b",), 2),), [[("b",), 2]], [(["b"], 2)], [("b", 2)], [(("b",), 2, 0)], [(("b",),)],
            [(("b",), True), (("b",), True)], [(("b",), True), (("b",), 1)], [(("b",), 2), (("b",), 0)],
            [(("b",), 3), (("b",), -1)], [(("b",), "2")], [(("b",), None)], [(("b",), (2,))], [(("b", "b"), 2)],
            [(("c", "a"), 2)], [(("b",), 2), ((), 1)], [(("b",), 2), (("a", "b", "c", "d"), 1)], [(("d",), 2)],
            [(("b",), 2), (("d",), 2)], [(("a", "a", "c"), 2)], [(("a", "c", "c"), 2)], [((("b",),), 2)],
            [(("b",), 1)], [(("b",), 3)], [(("b",), 2), (("a",), 1)], [(("b",), 2), (("c",), 1)], [],
            [(("b",), 2), None], [(("b",), 2), []], [{"b": 2}], {("b",): 2}, [((None,), 2)], [(("ab",), 2)],
            [(("b",), 10 ** 59)], [(("b",), 2), (("b",), 10 ** 59)], [(({},), 2)], [(([],), 2)], [((1, 2), 2)]]
        for value in wrong:
            self.assertIs(accepts_calm(N, value), False, value)
        self.assertIs(accepts_calm(N, [(("b",), 2), (("a", "b", "c"), 7)]), True)
        self.assertIs(accepts_calm(Network(["a"]), []), True)
        self.assertIs(accepts_calm(Network(["a"]), [(("a",), 5)]), True)
        self.assertIs(accepts_calm(Network(["a"]), ()), False)

    def test_two_negative_edges_in_a_cut(self):
        network = Network.chain(-1, -1)
        self.assertIs(accepts_calm(network, [(("b",), 2)]), False)
        self.assertIs(accepts_calm(network, [(("a",), 2), (("c",), 2)]), True)
        self.assertIs(accepts_calm(network, [(("a",), 2), (("a", "b"), 2)]), True)
        self.assertIs(accepts_calm(network, [(("a", "c"), 2)]), False)

    def test_changed_certificates_of_large_networks(self):
        for seed in range(6):
            network = Network(*brute.large_network(seed, 40 - seed, longest=100))
            value = calm_certificate(network)
            for at, (members, amount) in enumerate(value):
                for change in ([], [(members, amount + 1)], [(members, amount - 1)], [(members[::-1], amount)],
                               [(members[1:], amount)], [(list(members), amount)], [(members, amount)] * 2,
                               [(members, 1), (members, amount - 1)]):
                    changed = value[:at] + change + value[at + 1:]
                    expected = (all([type(entry[0]) is tuple for entry in changed])
                                and brute.is_certificate(network.nodes, network.edges, changed))
                    self.assertIs(accepts_calm(network, changed), expected)

    def test_value_is_not_changed(self):
        value = [(("b",), 2)]
        accepts_calm(N, value)
        self.assertEqual(value, [(("b",), 2)])
        self.assertIs(accepts_calm(network=N, value=value), True)


class Joins(CalmCase):
    def check_join(self, edge_set, least):
        try:
            value = join_certificate(edge_set)
        except NotLeast as error:
            self.assertFalse(least)
            self.assertIs(type(error.better), EdgeSet)
            self.assertEqual(error.better.network, edge_set.network)
            self.assertEqual(error.better.odd, edge_set.odd)
            self.assertLess(error.better.length, edge_set.length)
        else:
            self.assertTrue(least)
            self.check_certificate(edge_set.network, value, edge_set.names)
            self.assertIs(accepts_join(edge_set, value), True)

    def test_all_sets_of_small_networks(self):
        found = []
        for network in small(60, 7):
            lengths = brute.least_lengths(network.edges)
            for some in brute.subsets(network.edges):
                edge_set = EdgeSet.listed(network, [edge[0] for edge in some])
                if len(edge_set.odd) > 4:
                    self.assert_error(TooMany, 4, join_certificate, edge_set)
                else:
                    found.append(edge_set.length == lengths[edge_set.odd])
                    self.check_join(edge_set, found[-1])
        self.assertTrue(200 < sum(found) < len(found) - 200)

    def test_turned_networks_with_more_odd_nodes_than_a_network_may_have(self):
        nodes = brute.names(14)
        for length in (0, 5):
            edges = [("e" + nodes[at], nodes[at], nodes[at + 1], -1 if at < 10 else length) for at in range(0, 14, 2)]
            network = Network(nodes, edges)
            self.check_join(EdgeSet(network, "ek", "em"), True)
            self.check_join(EdgeSet(network, "ea", "ek"), True)
        ring = Network(nodes, [*edges, *[("f" + nodes[at], nodes[at - 1], nodes[at], 5) for at in range(0, 14, 2)]])
        self.check_join(EdgeSet(ring, "ek", "em"), True)

    def test_turned_edges_with_the_length_0(self):
        chain = Network.chain(*[0] * 25)
        self.check_join(EdgeSet.listed(chain, chain.names), True)
        ring = Network.ring(*[0] * 26)
        self.check_join(EdgeSet.listed(ring, ring.names), True)
        self.check_join(EdgeSet.listed(ring, ring.names[:20]), True)
        self.check_join(EdgeSet.listed(ring.with_lengths(ez=-1), ring.names[:20]), False)

    def test_sets_with_many_odd_nodes(self):
        for seed in range(10):
            network = Network(*brute.many_odd_nodes(seed))
            lengths = brute.least_lengths(network.edges)
            for some in random.Random(seed).sample(brute.subsets(network.edges), 60):
                edge_set = EdgeSet.listed(network, [edge[0] for edge in some])
                if len(edge_set.odd) > 4:
                    self.assert_error(TooMany, 4, join_certificate, edge_set)
                else:
                    self.check_join(edge_set, edge_set.length == lengths[edge_set.odd])

    def test_too_many_comes_first(self):
        network = Network.ring(1, 9, 1, 9, 1, 9)
        bad = EdgeSet(network, "eb", "ed", "ef")
        self.assertEqual(len(bad.odd), 6)
        self.assert_error(TooMany, 4, join_certificate, bad)
        self.check_join(EdgeSet(network, "ea", "ec"), True)
        self.check_join(EdgeSet(network, "eb", "ed"), False)

    def test_networks_that_are_not_calm(self):
        ring = Network.ring(-1, -1, 1)
        self.check_join(EdgeSet(ring), False)
        self.check_join(EdgeSet(ring, "ea", "eb", "ec"), True)
        self.assert_error(NotLeast, EdgeSet(ring, "ea", "eb", "ec"), join_certificate, EdgeSet(ring))
        self.check_join(EdgeSet(ring, "ec"), False)
        self.check_join(EdgeSet(ring, "eb", "ec"), False)
        self.check_join(EdgeSet(ring, "ea", "eb"), True)

    def test_large_networks(self):
        for seed in range(10):
            network = Network(*brute.large_network(seed, 40 - seed, longest=(5, 1000000)[seed & 1]))
            negative = [edge[0] for edge in network.edges if edge[3] < 0]
            absolute = network.with_lengths(**{name: -network[name][3] for name in negative})
            # What is negative in a calm network is a least join by absolute lengths, and so is each part of it.
            for piece in EdgeSet.listed(absolute, negative).split():
                self.check_join(piece, True)
            self.check_join(EdgeSet(network), True)
            for piece in EdgeSet.listed(network, network.names).split():
                if piece.is_cycle():
                    self.check_join(piece, piece.length == 0)

    def test_large_joins(self):
        for seed in range(6):
            network = Network(*brute.large_network(seed, longest=1000))
            chance = random.Random(seed)
            for _ in range(4):
                part = max(network.parts(), key=len)
                self.check_improved(network, self.some_join(network, chance.sample(part, 4)))

    def some_join(self, network, ends):
        """A join that is most often not a least one: it goes by absolute lengths."""
        ways = brute.shortest_ways(network.nodes, network.edges)
        names = set(ways[ends[0], ends[1]][1]) ^ set(ways[ends[2], ends[3]][1])
        return EdgeSet.listed(network, sorted(names))

    def check_improved(self, network, edge_set):
        """A join is made better until it is a least one."""
        while True:
            try:
                value = join_certificate(edge_set)
            except NotLeast as error:
                self.check_join(edge_set, False)
                edge_set = error.better
            else:
                break
        self.check_certificate(network, value, edge_set.names)
        self.check_join(edge_set, True)

    def test_checker(self):
        edge_set = EdgeSet(N, "ab", "bc")
        value = join_certificate(edge_set)
        self.assertIs(accepts_join(edge_set, tuple(value)), False)
        self.assertIs(accepts_join(edge_set, [list(entry) for entry in value]), False)
        self.assertIs(accepts_join(edge_set=edge_set, value=value), True)
        for other in (EdgeSet(N, "bc"), EdgeSet(N, "ca"), EdgeSet(N, "ab", "bc", "ca")):
            expected = brute.is_certificate(N.nodes, brute.turned(N.edges, other.names), value)
            self.assertIs(accepts_join(other, value), expected)
        self.assertIs(accepts_join(EdgeSet(N), calm_certificate(N)), True)
        self.assertEqual(join_certificate(EdgeSet(N)), calm_certificate(N))
        more = EdgeSet(Network.ring(*[1] * 12), "ea", "ec", "ee")
        self.assertIs(accepts_join(more, [((node,), 2) for node in "ace"]), True)

    def test_every_short_list(self):
        for names in brute.subsets(N.names):
            edge_set = EdgeSet.listed(N, names)
            edges = brute.turned(N.edges, names)
            entries = [(some, amount) for some in brute.subsets(N.nodes) for amount in (1, 2, 4)]
            for count in range(3):
                for value in itertools.combinations_with_replacement(entries, count):
                    expected = brute.is_certificate(N.nodes, edges, value)
                    self.assertIs(accepts_join(edge_set, list(value)), expected)


class Paths(CalmCase):
    def test_all_paths_of_small_networks(self):
        for network in small(60, 7):
            lengths = brute.least_lengths(network.edges)
            paths = [path for u in network.nodes for v in network.nodes for path in all_paths(network, u, v)]
            for path in paths:
                odd = tuple(sorted([path.start, path.end])) if path else ()
                if path.length == lengths[odd]:
                    value = join_certificate(path.edge_set)
                    self.assertIs(accepts_path(path, value), True)
                    self.assertIs(accepts_path(-path, value), True)
                    self.assertIs(accepts_path(path, tuple(value)), False)
                else:
                    with self.assertRaises(NotLeast):
                        join_certificate(path.edge_set)

    def test_no_certificate_names_a_path_that_is_not_shortest(self):
        entries = [(some, amount) for some in brute.subsets(N.nodes) for amount in (1, 2, 4)]
        for u, v in itertools.product(N.nodes, repeat=2):
            paths = list(all_paths(N, u, v))
            for path in paths:
                values = [value for count in range(3)
                          for value in itertools.combinations_with_replacement(entries, count)]
                found = any([accepts_path(path, list(value)) for value in values])
                self.assertIs(found, path.length == paths[0].length)

    def test_names_of_arguments(self):
        path = Path(N, "a", "ab")
        self.assertIs(accepts_path(path=path, value=join_certificate(edge_set=path.edge_set)), True)


if __name__ == "__main__":
    unittest.main()
