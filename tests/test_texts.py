"""Promise [20]: network_text and read_parts, with [10] and [12] as far as they need them."""

import copy
import itertools
import re
import unittest

from lendroads.errors import InvalidText
from lendroads.texts import network_text, read_parts

NODES = ("a", "b", "c")
EDGES = (("ab", "a", "b", -1), ("bc", "b", "c", 1), ("ca", "a", "c", 0))
TEXT = "node a\nnode b\nnode c\nedge ab a b -1\nedge bc b c 1\nedge ca a c 0"

LETTERS = "abcdefghijklmnopqrstuvwxyz"
# Names in ascending order, more than any network may have of them.
NAMES = [first + second for first in LETTERS for second in LETTERS][:150]


def nodes_text(count):
    return [f"node {name}" for name in NAMES[:count]]


def pair_lines(count, length):
    """Lines of edges without common ends: twice as many nodes are odd."""
    return [f"edge {NAMES[k]} {NAMES[2 * k]} {NAMES[2 * k + 1]} {length}" for k in range(count)]


def written_as_said(lines):
    """The index of the first line that cannot stand, found by a second reading of the document."""
    for last in range(len(lines)):
        line = lines[last]
        nodes = [text.split(" ")[1] for text in lines[:last] if text.startswith("node ")]
        names = [text.split(" ")[1] for text in lines[:last] if text.startswith("edge ")]
        node = re.fullmatch("node ([a-z]{1,8})", line)
        edge = re.fullmatch("edge ([a-z]{1,8}) ([a-z]{1,8}) ([a-z]{1,8}) (0|-?[1-9][0-9]{0,6})", line)
        if node and not names and len(nodes) < 40 and max([""] + nodes) < node[1]:
            continue
        if not edge or len(names) >= 100 or max([""] + names) >= edge[1]:
            return last
        if edge[2] not in nodes or edge[3] not in nodes or edge[2] >= edge[3] or abs(int(edge[4])) > 1000000:
            return last
    return None


class NetworkText(unittest.TestCase):
    def test_text(self):
        self.assertEqual(network_text(NODES, EDGES), TEXT)
        self.assertIs(type(network_text(NODES, EDGES)), str)

    def test_any_order_of_nodes_edges_and_ends(self):
        turned = [(name, v, u, length) for name, u, v, length in EDGES]
        for nodes in itertools.permutations(NODES):
            for edges in itertools.permutations(list(zip(EDGES, turned))):
                for ends in itertools.product((0, 1), repeat=3):
                    chosen = [pair[end] for pair, end in zip(edges, ends)]
                    self.assertEqual(network_text(nodes, chosen), TEXT)
                    self.assertEqual(network_text(list(nodes), tuple(chosen)), TEXT)

    def test_names_are_ordered_as_strings(self):
        text = network_text(["b", "ab", "abcdefgh"], [("x", "b", "ab", 1), ("wz", "b", "abcdefgh", 2)])
        self.assertEqual(text, "node ab\nnode abcdefgh\nnode b\nedge wz abcdefgh b 2\nedge x ab b 1")

    def test_lengths(self):
        lengths = {0: "0", -1: "-1", 7: "7", 10: "10", -10: "-10", 1000000: "1000000", -1000000: "-1000000"}
        for length, word in lengths.items():
            self.assertEqual(network_text(["a", "b"], [("x", "b", "a", length)]),
                             f"node a\nnode b\nedge x a b {word}")

    def test_no_edges_and_several_between_two_nodes(self):
        self.assertEqual(network_text(["a"], []), "node a")
        self.assertEqual(network_text(["b", "a"], ()), "node a\nnode b")
        self.assertEqual(network_text(["a", "b"], [("b", "b", "a", 2), ("a", "a", "b", 2)]),
                         "node a\nnode b\nedge a a b 2\nedge b a b 2")

    def test_arguments_by_name_and_left_as_they_are(self):
        nodes = ["c", "b", "a"]
        edges = [("ca", "c", "a", 0), ("bc", "c", "b", 1), ("ab", "b", "a", -1)]
        before = copy.deepcopy((nodes, edges))
        self.assertEqual(network_text(edges=edges, nodes=nodes), TEXT)
        self.assertEqual(network_text(nodes, edges), TEXT)
        self.assertEqual((nodes, edges), before)


class ReadParts(unittest.TestCase):
    def rejects(self, text, line):
        with self.assertRaises(InvalidText) as held:
            read_parts(text)
        self.assertEqual(held.exception.line, line, text)
        self.assertIs(type(held.exception.line), int)

    def reads(self, text):
        nodes, edges = read_parts(text)
        self.assertEqual(network_text(nodes, edges), text)
        return nodes, edges

    def test_parts_are_tuples(self):
        parts = read_parts(TEXT)
        self.assertEqual(parts, (NODES, EDGES))
        self.assertEqual([type(part) for part in (parts, *parts, *parts[1])], [tuple] * 6)
        self.assertEqual([type(value) for value in parts[1][0]], [str, str, str, int])
        self.assertEqual(read_parts(text=TEXT), parts)

    def test_reads_what_is_written(self):
        self.assertEqual(self.reads("node a"), (("a",), ()))
        self.assertEqual(self.reads("node edge\nnode node\nedge edge edge node 0"),
                         (("edge", "node"), (("edge", "edge", "node", 0),)))
        for length in (0, 1, -1, 9, 10, -10, 999999, 1000000, -1000000):
            text = f"node a\nnode abcdefgh\nedge zzzzzzzz a abcdefgh {length}"
            self.assertEqual(self.reads(text)[1], (("zzzzzzzz", "a", "abcdefgh", length),))

    def test_values_that_are_no_string(self):
        for value in (None, True, 0, 10 ** 60, (), [], ["node a"], ("node a",), {}, {"node": "a"}):
            self.rejects(value, 0)

    def test_empty_lines_and_a_last_newline(self):
        self.rejects("", 0)
        self.rejects("\n", 0)
        self.rejects("\nnode a", 0)
        self.rejects("node a\n", 1)
        self.rejects("node a\n\nnode b", 1)
        self.rejects(TEXT + "\n", 6)
        self.rejects(TEXT + "\n\n", 6)

    def test_spaces(self):
        for line in (" node b", "node b ", "node  b", "edge x a  b 1", " edge x a b 1", "edge x a b 1 ", " ", "  "):
            self.rejects("node a\n" + line, 1)
            self.rejects("node a\nnode b\n" + line, 2)
        self.rejects("node a\nnode b\tc", 1)
        self.rejects("node a\nnode b\nedge\tx a b 1", 2)

    def test_words(self):
        wrong = ("node", "node ", "node b c", "nodes b", "Node b", "NODE b", "b", "edge", "edge x", "edge x a",
                 "edge x a b", "edge x a b 1 2", "Edge x a b 1", "cut x", "node abcdefghi", "node B", "node b1",
                 "node -", "edge x1 a b 1", "edge abcdefghi a b 1", "edge  a b 1", "edge x a b c", "node 1",
                 "edge X a b 1", "node b;", "# b", "node b\n")
        for line in wrong:
            self.rejects("node a\nnode aa\nnode ab\nnode abc\nnode abcd\n" + line, 6 if line.endswith("\n") else 5)

    def test_order_of_nodes(self):
        self.rejects("node b\nnode a", 1)
        self.rejects("node a\nnode a", 1)
        self.rejects("node a\nnode c\nnode b", 2)
        self.rejects("node b\nnode ab", 1)
        self.rejects("node a\nnode b\nedge x a b 1\nnode c", 3)
        self.rejects("edge x a b 1\nnode a\nnode b", 0)

    def test_order_of_edges(self):
        self.rejects("node a\nnode b\nedge y a b 1\nedge x a b 1", 3)
        self.rejects("node a\nnode b\nedge x a b 1\nedge x a b 1", 3)
        self.rejects("node a\nnode b\nedge x a b 1\nedge xa a b 1\nedge x a b 2\nedge z a b 1", 4)

    def test_ends(self):
        self.rejects("node a\nnode b\nedge x b a 1", 2)
        self.rejects("node a\nnode b\nedge x a a 1", 2)
        self.rejects("node a\nnode b\nedge x a c 1", 2)
        self.rejects("node b\nnode c\nedge x a c 1", 2)
        self.rejects("node a\nnode b\nedge x a B 1", 2)

    def test_lengths(self):
        wrong = ("1000001", "-1000001", "9999999", "10000000", "+1", "+0", "-0", "00", "01", "-01", "0000001",
                 "--1", "1-", "-", "", "1.0", "1e3", "1_0", "0x1", "a", "1,000", "\u00b2", "\u0661", "9" * 60,
                 "-" + "9" * 60, "1" * 5000)
        for word in wrong:
            self.rejects(f"node a\nnode b\nedge x a b {word}\nedge y a b 1", 2)

    def test_at_most_forty_nodes(self):
        self.assertEqual(len(self.reads("\n".join(nodes_text(40)))[0]), 40)
        self.rejects("\n".join(nodes_text(41)), 40)
        self.rejects("\n".join(nodes_text(50)), 40)
        self.rejects("\n".join(nodes_text(41) + ["nonsense"]), 40)

    def test_at_most_a_hundred_edges(self):
        lines = ["node a", "node b"] + [f"edge {name} a b 1" for name in NAMES]
        self.assertEqual(len(self.reads("\n".join(lines[:102]))[1]), 100)
        self.rejects("\n".join(lines[:103]), 102)
        self.rejects("\n".join(lines), 102)

    def test_at_most_ten_odd_nodes_of_negative_edges(self):
        nodes = nodes_text(14)
        self.reads("\n".join(nodes + pair_lines(5, -1)))
        self.reads("\n".join(nodes + pair_lines(6, 0)))
        self.rejects("\n".join(nodes + pair_lines(6, -1)), 20)
        self.rejects("\n".join(nodes + pair_lines(7, -1)), 21)
        # Edges that follow may make nodes even again, so the lines before them can stand.
        paired = f"edge {NAMES[7]} {NAMES[0]} {NAMES[2]} "
        self.reads("\n".join(nodes + pair_lines(6, -1) + [paired + "-1"]))
        self.rejects("\n".join(nodes + pair_lines(6, -1) + [paired + "1"]), 21)

    def test_a_bad_line_counts_before_odd_nodes(self):
        lines = nodes_text(14) + pair_lines(6, -1)
        self.rejects("\n".join(lines + [""]), 20)
        self.rejects("\n".join(lines[:-1] + ["edge zz aa ab x"]), 19)
        self.rejects("\n".join(["node b", "node a"] + lines), 1)

    def test_odd_nodes_with_every_edge_there_is(self):
        lines = nodes_text(14) + pair_lines(6, -1)
        more = [f"edge {name} {NAMES[0]} {NAMES[1]} 1" for name in NAMES[6:100]]
        self.rejects("\n".join(lines + more), 114)
        self.rejects("\n".join(lines + more + [f"edge {NAMES[100]} {NAMES[0]} {NAMES[2]} -1"]), 114)
        self.rejects("\n".join(lines + [f"edge zzzzzzzz {NAMES[0]} {NAMES[1]} 1"]), 21)

    def test_first_bad_line_of_changed_texts(self):
        base = "node a\nnode ab\nnode c\nedge d a ab -5\nedge e ab c 0\nedge eb ab c 70".split("\n")
        texts = [list(lines) for lines in itertools.permutations(base)]
        texts += [base[:k] + [line] + base[k:] for k in range(7) for line in base + ["", "node b", "edge ea a c 3"]]
        for k, line in enumerate(base):
            for at in range(len(line) + 1):
                for char in " -+09abz\n":
                    texts.append(base[:k] + [line[:at] + char + line[at:]] + base[k + 1:])
                    texts.append(base[:k] + [line[:at] + char + line[at + 1:]] + base[k + 1:])
        for text in ["\n".join(lines) for lines in texts]:
            line = written_as_said(text.split("\n"))
            if line is None:
                self.reads(text)
            else:
                self.rejects(text, line)

    def test_equal_calls_give_equal_results(self):
        first = read_parts(TEXT)
        self.rejects("node b\nnode a", 1)
        self.assertEqual(read_parts(TEXT), first)


if __name__ == "__main__":
    unittest.main()
