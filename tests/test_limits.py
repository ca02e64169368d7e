"""The limits of the interface."""

import unittest

from lendroads import limits


class Limits(unittest.TestCase):
    def test_values(self):
        expected = {"MAX_NODES": 40, "MAX_EDGES": 100, "MAX_LENGTH": 1000000, "MAX_ODD": 10, "MAX_JOIN": 4}
        found = {name: value for name, value in vars(limits).items() if not name.startswith("__")}
        self.assertEqual(found, expected)
        for value in found.values():
            self.assertIs(type(value), int)


if __name__ == "__main__":
    unittest.main()
