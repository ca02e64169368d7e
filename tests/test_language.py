"""The rules of the language that can be read off the source files one by one."""

import ast
import builtins
import pathlib
import re
import unittest

PACKAGE = pathlib.Path(__file__).resolve().parent.parent / "lendroads"

# The interface as far as it has landed (the error classes: test_errors.py).
INTERFACE = {"texts": ["network_text", "read_parts"]}

LIBRARY = {
    "heapq": {"heappush", "heappop", "heapify", "heapreplace", "heappushpop"},
    "math": {"gcd", "lcm", "isqrt", "comb", "perm", "factorial"},
    "itertools": {"product", "combinations", "permutations", "chain", "accumulate", "pairwise", "islice",
                  "zip_longest"},
    "collections": {"defaultdict"},
}
BUILTINS = set(
    "len range enumerate zip min max sum abs sorted reversed int str bool list tuple dict set isinstance ord repr "
    "any all divmod pow iter next map getattr hasattr setattr super property staticmethod classmethod Exception "
    "ValueError TypeError KeyError IndexError LookupError ZeroDivisionError ArithmeticError OverflowError "
    "RuntimeError NotImplementedError AttributeError StopIteration NotImplemented".split())
METHODS = set(
    "append clear copy count endswith extend find get index insert isalnum isalpha isdigit islower isspace isupper "
    "items join keys ljust lower lstrip partition pop remove replace reverse rfind rjust rpartition rsplit rstrip "
    "setdefault split splitlines startswith strip update upper values zfill bit_length title capitalize swapcase "
    "casefold center expandtabs removeprefix removesuffix rindex isascii isdecimal isnumeric istitle isidentifier "
    "isprintable translate add discard sort format from_iterable".split())
BARRED = ("typing", "enum", "Enum", "Flag", "Generic", "Protocol", "ABC", "namedtuple", "NamedTuple", "TypedDict",
          "dataclass", "overload", "contextmanager", "eval", "exec", "globals", "locals", "open", "input")
STATEMENTS = (ast.Global, ast.AsyncFunctionDef, ast.AsyncFor, ast.AsyncWith, ast.Await, ast.Import, ast.Div,
              ast.TryStar)


def sources():
    return [(path, path.read_text(encoding="utf-8")) for path in sorted(PACKAGE.glob("*.py"))]


def nodes_of(*kinds):
    return [(path.name, node) for path, text in sources() for node in ast.walk(ast.parse(text))
            if isinstance(node, kinds)]


def is_docstring(node):
    return isinstance(node, ast.Expr) and isinstance(node.value, ast.Constant) and isinstance(node.value.value, str)


class Language(unittest.TestCase):
    def test_files(self):
        for path in PACKAGE.rglob("*"):
            self.assertTrue("__pycache__" in path.parts or re.fullmatch("[a-z_]+[a-z0-9_]*[.]py", path.name), path)
        self.assertTrue((PACKAGE / "__init__.py").is_file())

    def test_characters_and_sizes(self):
        for path, text in sources():
            self.assertRegex(text, r"\A[\n -~]*\Z", path)
            self.assertLess(len(text.splitlines()), 400, path)
            self.assertLessEqual(max(len(line) for line in text.splitlines()), 120, path)
        for name, function in nodes_of(ast.FunctionDef):
            self.assertLessEqual(function.end_lineno - function.lineno + 1, 40, (name, function.name))

    def test_imports(self):
        for name, node in nodes_of(ast.ImportFrom):
            words = {alias.name for alias in node.names}
            self.assertEqual(node.level, 0, name)
            self.assertNotIn("*", words, name)
            if node.module.startswith("lendroads."):
                other = ast.parse((PACKAGE / (node.module.split(".")[1] + ".py")).read_text())
                own = {getattr(one, "name", None) for one in other.body}
                own |= {one.targets[0].id for one in other.body if isinstance(one, ast.Assign)}
                self.assertLessEqual(words, own, (name, node.module))
            else:
                self.assertLessEqual(words, LIBRARY[node.module], (name, node.module))

    def test_module_level(self):
        allowed = (ast.ImportFrom, ast.FunctionDef, ast.ClassDef, ast.Assign)
        for path, text in sources():
            for node in ast.parse(text).body:
                self.assertTrue(isinstance(node, allowed) or is_docstring(node), (path.name, node.lineno))

    def test_statements(self):
        for name, node in nodes_of(*STATEMENTS):
            self.fail((name, getattr(node, "lineno", node)))

    def test_values(self):
        for name, node in nodes_of(ast.Constant):
            self.assertNotIsInstance(node.value, (float, complex), name)
            if isinstance(node.value, str):
                self.assertNotIn("%", node.value, name)

    def test_names(self):
        for name, node in nodes_of(ast.Name):
            self.assertFalse(node.id.startswith("__"), (name, node.id))
            self.assertNotIn(node.id, BARRED, name)
            if isinstance(node.ctx, ast.Load) and hasattr(builtins, node.id):
                self.assertIn(node.id, BUILTINS, name)

    def test_methods_of_builtin_values(self):
        own = {node.name for _, node in nodes_of(ast.FunctionDef)}
        for name, node in nodes_of(ast.Call):
            if isinstance(node.func, ast.Attribute):
                self.assertIn(node.func.attr, METHODS | own, (name, node.lineno))

    def test_interface_is_defined_where_it_is_listed(self):
        for module, names in INTERFACE.items():
            body = ast.parse((PACKAGE / (module + ".py")).read_text()).body
            self.assertLessEqual(set(names), {getattr(node, "name", None) for node in body}, module)


if __name__ == "__main__":
    unittest.main()
