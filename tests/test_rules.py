"""Promise [2] about integers and names, the odd nodes of [12], and the cuts of [13]."""

import unittest

from lendroads.rules import (
    cut_edges, edge_in_order, edges_by_node, is_length, is_name, is_whole, names_of, negative_edges, odd_nodes,
    other_end, sum_of_lengths)


class Rules(unittest.TestCase):
    def test_integers_are_no_bools(self):
        for value in (0, 1, -1, 10 ** 60, -10 ** 60):
            self.assertIs(is_whole(value), True)
        for value in (True, False, None, "1", "", (), [1], {1: 1}):
            self.assertIs(is_whole(value), False)

    def test_names(self):
        for value in ("a", "z", "edge", "node", "abcdefgh", "zzzzzzzz"):
            self.assertIs(is_name(value), True)
        wrong = ("", "abcdefghi", "a" * 1000, "A", "aB", "a1", "1", "a b", " a", "a ", "a\n", "-", "a_b", "{",
                 "\u00e9", "\u03b1", None, True, 0, ("a",), ["a"], {"a": "a"})
        for value in wrong:
            self.assertIs(is_name(value), False, value)

    def test_lengths(self):
        for value in (0, 1, -1, 1000000, -1000000):
            self.assertIs(is_length(value), True)
        for value in (1000001, -1000001, 10 ** 60, -10 ** 60, True, False, None, "1", (), [0], {}):
            self.assertIs(is_length(value), False, value)

    def test_ends_in_order(self):
        self.assertEqual(edge_in_order(("x", "b", "a", -1)), ("x", "a", "b", -1))
        self.assertEqual(edge_in_order(("x", "a", "b", -1)), ("x", "a", "b", -1))
        self.assertEqual(edge_in_order(("x", "b", "ab", 0)), ("x", "ab", "b", 0))

    def test_negative_edges(self):
        edges = [("x", "a", "b", -1), ("y", "a", "b", 0), ("z", "a", "b", 1), ("w", "a", "b", -1000000)]
        self.assertEqual(negative_edges(edges), [edges[0], edges[3]])

    def test_odd_nodes(self):
        self.assertEqual(odd_nodes([]), ())
        self.assertEqual(odd_nodes([("x", "b", "a", 1)]), ("a", "b"))
        self.assertEqual(odd_nodes([("x", "a", "b", 1), ("y", "a", "b", 5)]), ())
        self.assertEqual(odd_nodes([("x", "a", "b", 1), ("y", "c", "b", 5)]), ("a", "c"))
        star = [(name, "m", name, 0) for name in "zyx"]
        self.assertEqual(odd_nodes(star), ("m", "x", "y", "z"))

    def test_names_and_lengths_of_edges(self):
        edges = [("y", "a", "b", -1), ("x", "a", "b", 4)]
        self.assertEqual([names_of(edges), names_of(())], [("y", "x"), ()])
        self.assertEqual([sum_of_lengths(edges), sum_of_lengths(())], [3, 0])

    def test_other_end(self):
        self.assertEqual([other_end(("x", "a", "b", 1), "a"), other_end(("x", "a", "b", 1), "b")], ["b", "a"])

    def test_cuts(self):
        edges = [("x", "a", "b", 1), ("y", "b", "c", 1), ("z", "a", "c", 1)]
        self.assertEqual(cut_edges(edges, ("a",)), [edges[0], edges[2]])
        self.assertEqual(cut_edges(edges, ("a", "b")), [edges[1], edges[2]])
        self.assertEqual([cut_edges(edges, ()), cut_edges(edges, ("a", "b", "c", "d"))], [[], []])

    def test_edges_by_node(self):
        edges = [("y", "a", "b", 1), ("x", "b", "c", 1)]
        self.assertEqual(edges_by_node(edges), {"a": edges[:1], "b": edges, "c": edges[1:]})
        self.assertEqual(edges_by_node([]), {})


if __name__ == "__main__":
    unittest.main()
