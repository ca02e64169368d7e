"""What several tests need: values of every kind, and a look at the errors that are raised."""

import unittest

import brute

from lendroads.edgesets import EdgeSet
from lendroads.errors import NotCalm

DEEP = [[[[[[[["a"]]]]]]]]
# Any values that are no names; some of them are equal to others, but of another kind.
NO_NAMES = [
    None, True, False, 0, 1, -1, 10 ** 59, "", "A", "aB", "a1", "a b", " a", "a\n", "abcdefghi", "-", (), ("a",),
    ("a", "b"), [], ["a"], [1, [2, (3, None)]], {}, {"a": "b"}, {"a": {"b": [None]}}, DEEP,
]


class Case(unittest.TestCase):
    def assert_error(self, kind, field, call, /, *args, **kwargs):
        """The call raises just this error with an equal field of the same kind; returns the field."""
        with self.assertRaises(kind) as held:
            call(*args, **kwargs)
        self.assertIs(type(held.exception), kind)
        [found] = vars(held.exception).values()
        self.assertEqual(found, field)
        self.assertIs(type(found), type(field))
        return found

    def assert_not_calm(self, network, call, /, *args, **kwargs):
        """The call raises NotCalm with a cycle of this network that has a negative length."""
        with self.assertRaises(NotCalm) as held:
            call(*args, **kwargs)
        self.assertIs(type(held.exception), NotCalm)
        self.check_negative_cycle(network, held.exception.cycle)

    def check_negative_cycle(self, network, cycle):
        self.assertIs(type(cycle), EdgeSet)
        self.assertEqual(cycle.network, network)
        self.assertTrue(brute.is_cycle([network[name] for name in cycle.names]))
        self.assertLess(cycle.length, 0)

    def assert_plain(self, value):
        """The value is made of plain built-in values alone."""
        self.assertIn(type(value), (type(None), bool, int, str, tuple, list, dict))
        if isinstance(value, (tuple, list)):
            for item in value:
                self.assert_plain(item)
        if isinstance(value, dict):
            self.assert_plain(list(value.items()))
