"""The texts of networks."""

from lendroads.errors import InvalidText
from lendroads.limits import MAX_EDGES, MAX_NODES, MAX_ODD
from lendroads.rules import edge_in_order, is_length, is_name, negative_edges, odd_nodes

# As many characters as the length with the most of them, -1000000.
LONGEST_LENGTH = 8


def network_text(nodes, edges):
    """The text of valid nodes and edges, which may stand in any order."""
    lines = [f"node {node}" for node in sorted(nodes)]
    for name, u, v, length in sorted([edge_in_order(edge) for edge in edges]):
        lines.append(f"edge {name} {u} {v} {length}")
    return "\n".join(lines)


def read_parts(text):
    """The tuple (nodes, edges) of the network that has this text."""
    if not isinstance(text, str):
        raise InvalidText(0)
    nodes = []
    edges = []
    lines = text.split("\n")
    for index, line in enumerate(lines):
        words = line.split(" ")
        if _can_be_node(words, nodes, edges):
            nodes.append(words[1])
        elif _can_be_edge(words, nodes, edges):
            edges.append((words[1], words[2], words[3], int(words[4])))
        else:
            raise InvalidText(index)
    if len(odd_nodes(negative_edges(edges))) > MAX_ODD:
        raise InvalidText(len(lines))
    return tuple(nodes), tuple(edges)


def number_text(number):
    """A number as a word, and None as a dash."""
    return "-" if number is None else str(number)


def is_number(word):
    """True if a word is a decimal integer without leading zeros and plus signs."""
    digits = word.removeprefix("-")
    if not digits.isascii() or not digits.isdigit():
        return False
    return word == "0" or digits[0] != "0"


def _can_be_node(words, nodes, edges):
    """True if these words are the line of a node behind these nodes and edges."""
    if len(words) != 2 or words[0] != "node" or not is_name(words[1]):
        return False
    if edges or len(nodes) == MAX_NODES:
        return False
    return not nodes or nodes[-1] < words[1]


def _can_be_edge(words, nodes, edges):
    """True if these words are the line of an edge behind these nodes and edges."""
    if len(words) != 5 or words[0] != "edge" or not is_name(words[1]):
        return False
    _, name, u, v, length = words
    if u not in nodes or v not in nodes or u >= v:
        return False
    if not _is_length_word(length) or len(edges) == MAX_EDGES:
        return False
    return not edges or edges[-1][0] < name


def _is_length_word(word):
    """True if a word is the length of an edge."""
    # A longer word is left aside, since Python refuses to read very long numbers.
    return len(word) <= LONGEST_LENGTH and is_number(word) and is_length(int(word))
