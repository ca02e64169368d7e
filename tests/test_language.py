"""The rules of the language that can be read off the source files one by one."""

import ast
import builtins
import pathlib
import re
import unittest

PACKAGE = pathlib.Path(__file__).resolve().parent.parent / "lendroads"

# The interface (the error classes: test_errors.py): functions, and classes with methods.
INTERFACE = {
    "texts": ["network_text", "read_parts"],
    "networks": ["Network"],
    "edgesets": ["EdgeSet"],
    "paths": ["Path", "all_paths", "all_cycles"],
    "calm": ["is_calm", "negative_cycle", "calm_certificate", "accepts_calm", "join_certificate", "accepts_join",
             "accepts_path"],
    "distances": ["distance", "distances", "shortest_path", "is_shortest", "needed_edges"],
    "joins": ["join_length", "least_join", "pairs"],
    "cycles": ["shortest_cycle", "shortest_cycle_through", "fall", "free_edges"],
    "changes": ["turned", "distance_under", "distance_range"],
    "survey": ["within", "nearest", "farthest", "center", "table"],
    "books": ["Book", "CalmBook", "LoggedBook", "CalmLoggedBook"],
    "console": ["Console"],
}
MEMBERS = {
    "Network": "__init__ ring chain nodes edges names length text __len__ __contains__ __getitem__ __eq__ edges_at "
               "parts with_nodes with_edges without_nodes without_edges with_lengths read",
    "EdgeSet": "__init__ listed network names odd length is_path is_cycle __xor__ __or__ __and__ __sub__ __eq__ "
               "__contains__ __len__ is_within split cut",
    "Path": "__init__ along network start end nodes edges length edge_set rank __add__ __neg__ __eq__ __contains__ "
            "__getitem__ __len__",
    "Book": "__init__ change is_calm network undoable redoable depth undo redo distance shortest_path certificate "
            "trial in_trial __eq__",
    "CalmBook": "__init__",
    "LoggedBook": "log",
    "CalmLoggedBook": "",
    "Trial": "__enter__ __exit__ keep kept",
    "Console": "__init__ run book __call__",
}
PROPERTIES = {
    "Network": {"nodes", "edges", "names", "length", "text"}, "EdgeSet": {"network", "names", "odd", "length"},
    "Path": {"network", "start", "end", "nodes", "edges", "length", "edge_set", "rank"},
    "Book": {"network", "undoable", "redoable", "depth"}, "CalmBook": set(), "LoggedBook": {"log"},
    "CalmLoggedBook": set(), "Trial": {"kept"}, "Console": {"book"}}

LIBRARY = {
    "heapq": {"heappush", "heappop", "heapify", "heapreplace", "heappushpop"},
    "math": {"gcd", "lcm", "isqrt", "comb", "perm", "factorial"},
    "itertools": {"product", "combinations", "permutations", "chain", "accumulate", "pairwise", "islice",
                  "zip_longest"},
    "collections": {"defaultdict"},
}
BUILTINS = set(
    "len range enumerate zip min max sum abs sorted reversed int str bool list tuple dict set isinstance ord repr "
    "any all divmod pow iter next map getattr hasattr setattr super property staticmethod classmethod Exception "
    "ValueError TypeError KeyError IndexError LookupError ZeroDivisionError ArithmeticError OverflowError "
    "RuntimeError NotImplementedError AttributeError StopIteration NotImplemented".split())
METHODS = set(
    "append clear copy count endswith extend find get index insert isalnum isalpha isdigit islower isspace isupper "
    "items join keys ljust lower lstrip partition pop remove replace reverse rfind rjust rpartition rsplit rstrip "
    "setdefault split splitlines startswith strip update upper values zfill bit_length title capitalize swapcase "
    "casefold center expandtabs removeprefix removesuffix rindex isascii isdecimal isnumeric istitle isidentifier "
    "isprintable translate add discard sort format from_iterable".split())
BARRED = ("typing", "enum", "Enum", "Flag", "Generic", "Protocol", "ABC", "namedtuple", "NamedTuple", "TypedDict",
          "dataclass", "overload", "contextmanager", "eval", "exec", "globals", "locals", "open", "input")
STATEMENTS = (ast.Global, ast.AsyncFunctionDef, ast.AsyncFor, ast.AsyncWith, ast.Await, ast.Import, ast.Div,
              ast.TryStar)


def sources():
    return [(path, path.read_text(encoding="utf-8")) for path in sorted(PACKAGE.glob("*.py"))]


def nodes_of(*kinds):
    return [(path.name, node) for path, text in sources() for node in ast.walk(ast.parse(text))
            if isinstance(node, kinds)]


def is_docstring(node):
    return isinstance(node, ast.Expr) and isinstance(node.value, ast.Constant) and isinstance(node.value.value, str)


def classes():
    return {node.name: node for _, node in nodes_of(ast.ClassDef)}


def methods_of(node):
    return {one.name: one for one in node.body if isinstance(one, ast.FunctionDef)}


def marks_of(function):
    """The names of the decorators."""
    return [getattr(mark, "id", None) for mark in function.decorator_list]


class Language(unittest.TestCase):
    def test_files(self):
        for path in PACKAGE.rglob("*"):
            self.assertTrue("__pycache__" in path.parts or re.fullmatch("[a-z_]+[a-z0-9_]*[.]py", path.name), path)
        self.assertTrue((PACKAGE / "__init__.py").is_file())

    def test_characters_and_sizes(self):
        for path, text in sources():
            self.assertRegex(text, r"\A[\n -~]*\Z", path)
            self.assertLess(len(text.splitlines()), 400, path)
            self.assertLessEqual(max(len(line) for line in text.splitlines()), 120, path)
        for name, function in nodes_of(ast.FunctionDef):
            self.assertLessEqual(function.end_lineno - function.lineno + 1, 40, (name, function.name))

    def test_imports(self):
        for name, node in nodes_of(ast.ImportFrom):
            words = {alias.name for alias in node.names}
            self.assertEqual(node.level, 0, name)
            self.assertNotIn("*", words, name)
            if node.module.startswith("lendroads."):
                other = ast.parse((PACKAGE / (node.module.split(".")[1] + ".py")).read_text())
                own = {getattr(one, "name", None) for one in other.body}
                own |= {one.targets[0].id for one in other.body if isinstance(one, ast.Assign)}
                self.assertLessEqual(words, own, (name, node.module))
            else:
                self.assertLessEqual(words, LIBRARY[node.module], (name, node.module))

    def test_module_level(self):
        allowed = (ast.ImportFrom, ast.FunctionDef, ast.ClassDef, ast.Assign)
        for path, text in sources():
            for node in ast.parse(text).body:
                self.assertTrue(isinstance(node, allowed) or is_docstring(node), (path.name, node.lineno))

    def test_statements(self):
        for name, node in nodes_of(*STATEMENTS):
            self.fail((name, getattr(node, "lineno", node)))

    def test_values(self):
        for name, node in nodes_of(ast.Constant):
            self.assertNotIsInstance(node.value, (float, complex), name)
            if isinstance(node.value, str):
                self.assertNotIn("%", node.value, name)

    def test_names(self):
        for name, node in nodes_of(ast.Name):
            self.assertFalse(node.id.startswith("__"), (name, node.id))
            self.assertNotIn(node.id, BARRED, name)
            if isinstance(node.ctx, ast.Load) and hasattr(builtins, node.id):
                self.assertIn(node.id, BUILTINS, name)

    def test_methods_of_builtin_values(self):
        own = {node.name for _, node in nodes_of(ast.FunctionDef)}
        for name, node in nodes_of(ast.Call):
            if isinstance(node.func, ast.Attribute):
                self.assertIn(node.func.attr, METHODS | own, (name, node.lineno))

    def test_members_are_defined_in_their_class(self):
        for name, members in MEMBERS.items():
            self.assertLessEqual(set(members.split()), set(methods_of(classes()[name])), name)
            marked = {key for key, one in methods_of(classes()[name]).items() if marks_of(one) == ["property"]}
            self.assertEqual(marked, PROPERTIES[name], name)

    def test_names_of_properties_and_static_methods_mean_nothing_else(self):
        kinds = {}
        for node in classes().values():
            for name, method in methods_of(node).items():
                kinds.setdefault(name, []).append(marks_of(method))
        stored = {node.attr for _, node in nodes_of(ast.Attribute) if isinstance(node.ctx, ast.Store)}
        for name, marks in kinds.items():
            if ["property"] in marks:
                self.assertEqual(marks, [["property"]] * len(marks), name)
            elif [] not in marks:
                self.assertNotIn(name, METHODS, name)
            if not name.startswith("__"):
                self.assertNotIn(name, stored, name)

    def test_what_is_indexed_is_not_iterated_over_by_index(self):
        for name, node in classes().items():
            if "__getitem__" in methods_of(node):
                self.assertIn("__iter__", methods_of(node), name)
        for path, text in sources():
            for words in ("(type)", "Meta", "metaclass="):
                self.assertNotIn(words, text, path)

    def test_sorted_and_the_like_take_lists(self):
        for name, node in nodes_of(ast.Call):
            if getattr(node.func, "id", None) in ("any", "all", "min", "max", "sum", "sorted"):
                self.assertNotIsInstance(node.args[0], ast.GeneratorExp, (name, node.lineno))
            self.assertNotEqual(getattr(node.func, "attr", None), "sort", (name, node.lineno))

    def test_equality_has_the_simple_form(self):
        for name, node in classes().items():
            if "__eq__" in methods_of(node):
                [only] = methods_of(node)["__eq__"].body
                self.assertTrue(ast.unparse(only).startswith(f"return isinstance(other, {name}) and "), name)

    def test_no_file_imports_itself_through_others(self):
        above = {path.stem: {node.module.split(".")[1] for node in ast.walk(ast.parse(text))
                             if isinstance(node, ast.ImportFrom) and node.module.startswith("lendroads.")}
                 for path, text in sources()}
        while above:
            lowest = [name for name, modules in above.items() if not modules & set(above)]
            self.assertTrue(lowest, above)
            for name in lowest:
                del above[name]

    def test_interface_is_defined_where_it_is_listed(self):
        for module, names in INTERFACE.items():
            body = ast.parse((PACKAGE / (module + ".py")).read_text()).body
            self.assertLessEqual(set(names), {getattr(node, "name", None) for node in body}, module)


if __name__ == "__main__":
    unittest.main()
