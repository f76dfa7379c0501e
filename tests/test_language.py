"""The files of the package keep to the rules of the subset that a plain look at the code can tell."""

import ast
import builtins
import pathlib
import re
import unittest
import warnings

PACKAGE = pathlib.Path(__file__).resolve().parent.parent / "wornsteps"

BUILTINS = """len range enumerate zip min max sum abs sorted reversed int str bool bytes list tuple dict set frozenset
isinstance ord repr any all divmod iter next map super property staticmethod classmethod Exception ValueError TypeError
KeyError IndexError LookupError ZeroDivisionError ArithmeticError OverflowError RuntimeError NotImplementedError
AttributeError StopIteration NotImplemented""".split()

LIBRARY = {"heapq": "heappush heappop heapify heapreplace heappushpop".split(),
           "math": "gcd lcm isqrt comb perm factorial".split(),
           "itertools": "product combinations permutations".split()}

BARRED_NAMES = """register mro elements open input law version_info with_traceback add_note type typing enum Enum
dataclass eval exec getattr setattr hasattr delattr globals locals vars dir id compile""".split()

BARRED_NODES = (ast.Global, ast.AsyncFunctionDef, ast.AsyncFor, ast.AsyncWith, ast.Await, ast.Import, ast.Div)


def sources():
    return sorted(path for path in PACKAGE.rglob("*") if path.is_file() and "__pycache__" not in path.parts)


def trees():
    return [(path.name, ast.parse(path.read_text())) for path in sources()]


def nodes():
    return [(name, node) for name, tree in trees() for node in ast.walk(tree)]


def names_of(tree):
    """The names that a file defines itself, at its module level."""
    assigned = [node.targets[0].id for node in tree.body if isinstance(node, ast.Assign)]
    return assigned + [node.name for node in tree.body if isinstance(node, (ast.FunctionDef, ast.ClassDef))]


def base_of(node):
    """The name, with its attributes, of what a name, an attribute or an item of it belongs to."""
    while isinstance(node, ast.Subscript):
        node = node.value
    return ast.unparse(node)


def names_in(node):
    """All names, also with their attributes, that stand in some code."""
    return [ast.unparse(part) for part in ast.walk(node) if isinstance(part, (ast.Name, ast.Attribute))]


def changes(node):
    """Rows of what some code changes by a sign such as +=, by extend or by update, and what that gets."""
    if isinstance(node, ast.AugAssign):
        return [(base_of(node.target), node.value)]
    if isinstance(node, ast.Call) and getattr(node.func, "attr", "") in ("extend", "update"):
        return [(base_of(node.func.value), added) for added in node.args]
    return []


class Files(unittest.TestCase):
    def test_the_folder_contains_only_files_of_code_with_plain_names(self):
        self.assertTrue(sources())
        for path in sources():
            self.assertRegex(path.name, r"^[a-z_][a-z0-9_]*\.py$")

    def test_characters_and_sizes(self):
        for path in sources():
            text = path.read_bytes().decode("ascii")
            self.assertRegex(text, r"^[ -~\n]*$", path)
            self.assertLessEqual(len(text.splitlines()), 399, path)
            self.assertLessEqual(max(map(len, text.splitlines())), 120, path)

    def test_functions_are_small(self):
        for name, node in nodes():
            if isinstance(node, ast.FunctionDef):
                self.assertLessEqual(node.end_lineno - node.lineno + 1, 40, (name, node.name))

    def test_python_gives_no_warning(self):
        for path in sources():
            with warnings.catch_warnings():
                warnings.simplefilter("error")
                compile(path.read_text(), str(path), "exec")


class Code(unittest.TestCase):
    def test_no_barred_statement_or_sign(self):
        for name, node in nodes():
            self.assertNotIsInstance(node, BARRED_NODES, (name, getattr(node, "lineno", None)))
            if isinstance(node, ast.Constant):
                self.assertNotIsInstance(node.value, (float, complex), name)
                self.assertFalse(isinstance(node.value, str) and "%" in node.value, (name, node.lineno))

    def test_imports_are_by_full_names_from_the_file_that_defines_them(self):
        defined = {f"wornsteps.{name[:-3]}": names_of(tree) for name, tree in trees()}
        for name, tree in trees():
            for node in ast.walk(tree):
                if isinstance(node, ast.ImportFrom):
                    self.assertIn(node, tree.body)
                    known = {**defined, **LIBRARY}[node.module]
                    for alias in node.names:
                        self.assertIn(alias.name, known, name)
                        self.assertIsNone(alias.asname)

    def test_only_some_builtins_are_used_and_none_has_another_meaning(self):
        for name, node in nodes():
            if isinstance(node, ast.Name) and hasattr(builtins, node.id):
                self.assertIsInstance(node.ctx, ast.Load, (name, node.lineno))
                self.assertIn(node.id, BUILTINS, (name, node.lineno))
            if isinstance(node, ast.arg):
                self.assertFalse(hasattr(builtins, node.arg), (name, node.arg))

    def test_names(self):
        for name, node in nodes():
            for word in [getattr(node, key, None) for key in ("id", "attr", "arg", "name")]:
                if isinstance(word, str):
                    self.assertNotIn(word, BARRED_NAMES, name)
                    self.assertRegex(word, r"^(_|_?[A-Za-z][A-Za-z0-9_]*|__[a-z]+__)$")

    def test_what_is_added_is_not_what_is_changed(self):
        for name, node in nodes():
            for changed, added in changes(node):
                self.assertNotIn(changed, names_in(added), (name, node.lineno))

    def test_any_all_sum_and_the_like_take_lists(self):
        for name, node in nodes():
            if isinstance(node, ast.Call) and getattr(node.func, "id", "") in "any all min max sum sorted".split():
                self.assertNotIsInstance(node.args[0], ast.GeneratorExp, (name, node.lineno))

    def test_each_function_and_class_is_told_in_words_unless_it_is_one_of_python_itself(self):
        for name, node in nodes():
            if isinstance(node, (ast.FunctionDef, ast.ClassDef)) and not re.match("__", node.name):
                self.assertTrue(ast.get_docstring(node), (name, node.name))


if __name__ == "__main__":
    unittest.main()
