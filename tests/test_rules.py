"""Promise [2] about integers and names, and the odd nodes of [12]."""

import unittest

from lendroads.rules import edge_in_order, is_length, is_name, is_whole, negative_edges, odd_nodes


class Rules(unittest.TestCase):
    def test_integers_are_no_bools(self):
        for value in (0, 1, -1, 10 ** 60, -10 ** 60):
            self.assertIs(is_whole(value), True)
        for value in (True, False, None, "1", "", (), [1], {1: 1}):
            self.assertIs(is_whole(value), False)

    def test_names(self):
        for value in ("a", "z", "edge", "node", "abcdefgh", "zzzzzzzz"):
            self.assertIs(is_name(value), True)
        wrong = ("", "abcdefghi", "a" * 1000, "A", "aB", "a1", "1", "a b", " a", "a ", "a\n", "-", "a_b", "{",
                 "\u00e9", "\u03b1", None, True, 0, ("a",), ["a"], {"a": "a"})
        for value in wrong:
            self.assertIs(is_name(value), False, value)

    def test_lengths(self):
        for value in (0, 1, -1, 1000000, -1000000):
            self.assertIs(is_length(value), True)
        for value in (1000001, -1000001, 10 ** 60, -10 ** 60, True, False, None, "1", (), [0], {}):
            self.assertIs(is_length(value), False, value)

    def test_ends_in_order(self):
        self.assertEqual(edge_in_order(("x", "b", "a", -1)), ("x", "a", "b", -1))
        self.assertEqual(edge_in_order(("x", "a", "b", -1)), ("x", "a", "b", -1))
        self.assertEqual(edge_in_order(("x", "b", "ab", 0)), ("x", "ab", "b", 0))

    def test_negative_edges(self):
        edges = [("x", "a", "b", -1), ("y", "a", "b", 0), ("z", "a", "b", 1), ("w", "a", "b", -1000000)]
        self.assertEqual(negative_edges(edges), [edges[0], edges[3]])

    def test_odd_nodes(self):
        self.assertEqual(odd_nodes([]), ())
        self.assertEqual(odd_nodes([("x", "b", "a", 1)]), ("a", "b"))
        self.assertEqual(odd_nodes([("x", "a", "b", 1), ("y", "a", "b", 5)]), ())
        self.assertEqual(odd_nodes([("x", "a", "b", 1), ("y", "c", "b", 5)]), ("a", "c"))
        star = [(name, "m", name, 0) for name in "zyx"]
        self.assertEqual(odd_nodes(star), ("m", "x", "y", "z"))


if __name__ == "__main__":
    unittest.main()
