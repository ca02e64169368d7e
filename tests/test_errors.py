"""Promise [3] and the error classes of the interface."""

import unittest

from lendroads import errors

BASES = {
    ValueError: {
        "InvalidNode": "value", "InvalidEdge": "value", "InvalidLength": "value", "InvalidText": "line",
        "InvalidNodes": "value", "InvalidChange": "index", "InvalidCommand": "line", "NotPath": "index",
        "NotCalm": "cycle", "NotLeast": "better", "OtherNetwork": None, "NotJoined": None,
    },
    KeyError: {"UnknownNode": "value", "UnknownEdge": "value"},
    IndexError: {"OutOfRange": "value"},
    OverflowError: {"TooMany": "limit"},
    RuntimeError: {"NothingToUndo": None, "NothingToRedo": None, "InTrial": None},
}
ROWS = [(name, field, base) for base, rows in BASES.items() for name, field in rows.items()]
WITH_FIELD = [(name, field) for name, field, _ in ROWS if field is not None]
WITHOUT_FIELD = [name for name, field, _ in ROWS if field is None]


class Anything:
    """An object that the package does not know."""


VALUES = [
    None, True, False, 0, -1, 10 ** 60, "", "a", "two words\n", (), ("x", "a", "b", 1), [], [1, [2, [3]]],
    {}, {"a": {"b": [None]}}, Anything(),
]


class Errors(unittest.TestCase):
    def test_the_classes_are_those_of_the_interface(self):
        found = {name for name, value in vars(errors).items() if isinstance(value, type)}
        self.assertEqual(found, {name for name, _, _ in ROWS})

    def test_python_class_is_the_only_direct_base(self):
        for name, _, base in ROWS:
            self.assertEqual(getattr(errors, name).__bases__, (base,), name)

    def test_defined_in_their_file_under_their_name(self):
        for name, _, _ in ROWS:
            self.assertEqual(getattr(errors, name).__module__, "lendroads.errors")
            self.assertEqual(getattr(errors, name).__name__, name)

    def test_no_error_is_another_one(self):
        for name, _, _ in ROWS:
            for other, _, _ in ROWS:
                related = issubclass(getattr(errors, name), getattr(errors, other))
                self.assertEqual(related, name == other, (name, other))

    def test_created_by_position(self):
        for name, field in WITH_FIELD:
            for value in VALUES:
                error = getattr(errors, name)(value)
                self.assertIs(getattr(error, field), value)
                self.assertEqual(list(vars(error)), [field])

    def test_created_by_name(self):
        for name, field in WITH_FIELD:
            for value in VALUES:
                error = getattr(errors, name)(**{field: value})
                self.assertIs(getattr(error, field), value)
                self.assertEqual(list(vars(error)), [field])

    def test_created_without_fields(self):
        for name in WITHOUT_FIELD:
            self.assertEqual(vars(getattr(errors, name)()), {}, name)

    def test_field_must_be_given_and_no_other_name(self):
        for name, field in WITH_FIELD:
            with self.assertRaises(TypeError):
                getattr(errors, name)()
            with self.assertRaises(TypeError):
                getattr(errors, name)(**{field + "s": 1})

    def test_raised_and_caught_by_name_and_by_python_class(self):
        for name, field, base in ROWS:
            made = getattr(errors, name)(*([] if field is None else [name]))
            for caught in (getattr(errors, name), base):
                with self.assertRaises(caught) as held:
                    raise made
                self.assertIs(held.exception, made)

    def test_objects_do_not_share_their_values(self):
        first = errors.TooMany(10)
        second = errors.TooMany(100)
        self.assertEqual([first.limit, second.limit], [10, 100])


if __name__ == "__main__":
    unittest.main()
