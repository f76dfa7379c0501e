"""The files of the package keep to the rules of the subset that a plain look at the code can tell."""

import ast
import builtins
import pathlib
import re
import unittest
import warnings

PACKAGE = pathlib.Path(__file__).resolve().parent.parent / "wornsteps"

BUILTINS = """len range enumerate zip min max sum abs sorted reversed int str bool bytes list tuple dict set frozenset
isinstance ord repr any all divmod iter next map super property staticmethod classmethod Exception ValueError TypeError
KeyError IndexError LookupError ZeroDivisionError ArithmeticError OverflowError RuntimeError NotImplementedError
AttributeError StopIteration NotImplemented""".split()

LIBRARY = {"heapq": "heappush heappop heapify heapreplace heappushpop".split(),
           "math": "gcd lcm isqrt comb perm factorial".split(),
           "itertools": "product combinations permutations".split()}

BARRED_NAMES = """register mro elements open input law version_info with_traceback add_note type typing enum Enum
dataclass eval exec getattr setattr hasattr delattr globals locals vars dir id compile""".split()

# Running examples gives "_" a meaning for a time, which is none of Python's own.
BUILTIN_NAMES = set(dir(builtins)) - {"_"}

# What the arithmetic signs and the like run.
OPERATORS = """__lt__ __le__ __gt__ __ge__ __ne__ __add__ __sub__ __mul__ __rmul__ __and__ __or__ __neg__ __bool__
__contains__ __getitem__ __eq__ __repr__ __str__ __len__""".split()

BARRED_NODES = (ast.Global, ast.AsyncFunctionDef, ast.AsyncFor, ast.AsyncWith, ast.Await, ast.Import, ast.Div)


def sources():
    return sorted(path for path in PACKAGE.rglob("*") if path.is_file() and "__pycache__" not in path.parts)


def trees():
    return [(path.name, ast.parse(path.read_text())) for path in sources()]


def nodes():
    return [(name, node) for name, tree in trees() for node in ast.walk(tree)]


def names_of(tree):
    """The names that a file defines itself, at its module level."""
    assigned = [node.targets[0].id for node in tree.body if isinstance(node, ast.Assign)]
    return assigned + [node.name for node in tree.body if isinstance(node, (ast.FunctionDef, ast.ClassDef))]


def base_of(node):
    """The name, with its attributes, of what a name, an attribute or an item of it belongs to."""
    while isinstance(node, ast.Subscript):
        node = node.value
    return ast.unparse(node)


def names_in(node):
    """All names, also with their attributes, that stand in some code."""
    return [ast.unparse(part) for part in ast.walk(node) if isinstance(part, (ast.Name, ast.Attribute))]


def changes(node):
    """Rows of what some code changes by a sign such as +=, by extend or by update, and what that gets."""
    if isinstance(node, ast.AugAssign):
        return [(base_of(node.target), node.value)]
    if isinstance(node, ast.Call) and getattr(node.func, "attr", "") in ("extend", "update"):
        return [(base_of(node.func.value), added) for added in node.args]
    return []


def functions():
    """Rows of all functions and methods: the file's name, the class's name or None, and the code."""
    rows = []
    for name, tree in trees():
        rows.extend((name, None, node) for node in tree.body if isinstance(node, ast.FunctionDef))
        for group in tree.body:
            if isinstance(group, ast.ClassDef):
                rows.extend((name, group.name, node) for node in group.body if isinstance(node, ast.FunctionDef))
    return rows


def called(node):
    """The names of the functions and methods that some code calls; a class stands for its __init__."""
    return {getattr(part.func, "id", getattr(part.func, "attr", "")) for part in ast.walk(node)
            if isinstance(part, ast.Call)}


def run_by_operators():
    """The rows of all that an operator or a property may run, found by names alone."""
    rows = functions()
    begun = [row for row in rows if row[2].name in OPERATORS or "property" in map(ast.unparse, row[2].decorator_list)]
    found = []
    while begun:
        row = begun.pop()
        if row not in found:
            found.append(row)
            names = called(row[2])
            begun.extend(other for other in rows if other[2].name in names or (
                other[2].name == "__init__" and other[1] in names))
    return found


def own_lists(function):
    """The names of what a function creates itself, and may change even if an operator runs it."""
    kinds = (ast.List, ast.Dict, ast.ListComp)
    return {node.targets[0].id for node in ast.walk(function) if isinstance(node, ast.Assign) and isinstance(
        node.targets[0], ast.Name) and (isinstance(node.value, kinds) or isinstance(node.value, ast.Call) and getattr(
            node.value.func, "id", "") in ("list", "dict", "sorted"))}


def stored(function):
    """The targets of a function's assignments, and the lists of which it calls a method that changes them."""
    rows = []
    for node in ast.walk(function):
        if isinstance(node, (ast.Attribute, ast.Subscript)) and isinstance(node.ctx, (ast.Store, ast.Del)):
            rows.append(node)
        if isinstance(node, ast.Call) and isinstance(node.func, ast.Attribute) and node.func.attr in (
                "append clear extend insert pop remove reverse setdefault update sort add discard").split():
            rows.append(ast.Subscript(node.func.value, ast.Constant(0)))
    return rows


def alike(node):
    """The names, attributes and items that some code may give another name: what it is, or one choice in it."""
    if isinstance(node, (ast.Name, ast.Attribute, ast.Subscript)):
        return [base_of(node)]
    if isinstance(node, ast.IfExp):
        return alike(node.body) + alike(node.orelse)
    if isinstance(node, ast.BoolOp):
        return [word for value in node.values for word in alike(value)]
    return []


def second_names(function):
    """The dict from all names of a function that stand for another one, or have others, to one for all of these."""
    names = {}
    for node in ast.walk(function):
        if isinstance(node, (ast.Assign, ast.NamedExpr)):
            targets = node.targets if isinstance(node, ast.Assign) else [node.target]
            words = [word for target in targets if not isinstance(target, ast.Subscript) for word in alike(target)]
            # A part of an object is no second name for the whole object, nor is an object for what it is put into.
            if words and alike(node.value) and not isinstance(node.value, ast.Subscript):
                words += alike(node.value)
                groups = [names.get(word, word) for word in words]
                names.update({word: groups[-1] for word in [*names, *words] if names.get(word, word) in groups})
    return names


def walks(function):
    """Rows of all loops and comprehensions of a function: the code, what it walks, and what it does meanwhile."""
    rows = []
    for node in ast.walk(function):
        if isinstance(node, ast.For):
            rows.append((node, node.iter, node.body))
        if isinstance(node, (ast.ListComp, ast.SetComp, ast.DictComp, ast.GeneratorExp)):
            rows.extend((node, part.iter, [node]) for part in node.generators)
    # list(xs) and sorted(xs) are walked in the place of xs.
    return [row for row in rows if not (isinstance(row[1], ast.Call) and getattr(row[1].func, "id", "") in (
        "list", "tuple", "sorted", "range"))]


class Operators(unittest.TestCase):
    def test_they_change_only_what_they_create_themselves(self):
        self.assertGreater(len(run_by_operators()), 30)
        for name, _, function in run_by_operators():
            for target in stored(function):
                if isinstance(target, ast.Attribute):
                    self.assertEqual((function.name, ast.unparse(target.value)), ("__init__", "self"), name)
                else:
                    self.assertIn(ast.unparse(target.value), own_lists(function), (name, function.name))

    def test_they_add_nothing_in_place(self):
        # A desk has += and -= of its own, so that these signs may change what is not looked for here.
        for name, _, function in run_by_operators():
            for node in ast.walk(function):
                self.assertNotIsInstance(node, ast.AugAssign, (name, function.name))

    def test_they_call_no_object_and_no_parameter(self):
        known = {function.name for _, _, function in functions()} | set(BUILTINS)
        classes = {node.name for _, node in nodes() if isinstance(node, ast.ClassDef)}
        for name, _, function in run_by_operators():
            for node in ast.walk(function):
                if isinstance(node, ast.Call) and isinstance(node.func, ast.Name):
                    self.assertIn(node.func.id, known | classes | set(LIBRARY["math"]), (name, function.name))


class Files(unittest.TestCase):
    def test_the_folder_contains_only_files_of_code_with_plain_names(self):
        self.assertTrue(sources())
        for path in sources():
            self.assertRegex(path.name, r"^[a-z_][a-z0-9_]*\.py$")

    def test_characters_and_sizes(self):
        for path in sources():
            text = path.read_bytes().decode("ascii")
            self.assertRegex(text, r"^[ -~\n]*$", path)
            self.assertLessEqual(len(text.splitlines()), 399, path)
            self.assertLessEqual(max(map(len, text.splitlines())), 120, path)

    def test_functions_are_small(self):
        for name, node in nodes():
            if isinstance(node, ast.FunctionDef):
                self.assertLessEqual(node.end_lineno - node.lineno + 1, 40, (name, node.name))

    def test_python_gives_no_warning(self):
        for path in sources():
            with warnings.catch_warnings():
                warnings.simplefilter("error")
                compile(path.read_text(), str(path), "exec")


class Code(unittest.TestCase):
    def test_no_barred_statement_or_sign(self):
        for name, node in nodes():
            self.assertNotIsInstance(node, BARRED_NODES, (name, getattr(node, "lineno", None)))
            if isinstance(node, ast.Constant):
                self.assertNotIsInstance(node.value, (float, complex), name)
                self.assertFalse(isinstance(node.value, str) and "%" in node.value, (name, node.lineno))

    def test_imports_are_by_full_names_from_the_file_that_defines_them(self):
        defined = {f"wornsteps.{name[:-3]}": names_of(tree) for name, tree in trees()}
        for name, tree in trees():
            for node in ast.walk(tree):
                if isinstance(node, ast.ImportFrom):
                    self.assertIn(node, tree.body)
                    known = {**defined, **LIBRARY}[node.module]
                    for alias in node.names:
                        self.assertIn(alias.name, known, name)
                        self.assertIsNone(alias.asname)

    def test_only_some_builtins_are_used_and_none_has_another_meaning(self):
        for name, node in nodes():
            if isinstance(node, ast.Name) and node.id in BUILTIN_NAMES:
                self.assertIsInstance(node.ctx, ast.Load, (name, node.lineno))
                self.assertIn(node.id, BUILTINS, (name, node.lineno))
            if isinstance(node, ast.arg):
                self.assertNotIn(node.arg, BUILTIN_NAMES, (name, node.arg))
            if isinstance(node, (ast.FunctionDef, ast.ClassDef)):
                self.assertNotIn(node.name, BUILTIN_NAMES, name)

    def test_names(self):
        for name, node in nodes():
            for word in [getattr(node, key, None) for key in ("id", "attr", "arg", "name")]:
                if isinstance(word, str):
                    self.assertNotIn(word, BARRED_NAMES, name)
                    self.assertRegex(word, r"^(_|_?[A-Za-z][A-Za-z0-9_]*|__[a-z]+__)$")

    def test_what_is_added_is_not_what_is_changed(self):
        for name, node in nodes():
            for changed, added in changes(node):
                self.assertNotIn(changed, names_in(added), (name, node.lineno))

    def test_no_name_of_a_class_or_an_import_is_given_to_anything_else(self):
        for name, tree in trees():
            taken = {alias.name for node in tree.body if isinstance(node, ast.ImportFrom) for alias in node.names}
            taken |= {node.name for node in tree.body if isinstance(node, ast.ClassDef)}
            for node in ast.walk(tree):
                if isinstance(node, ast.Name) and isinstance(node.ctx, (ast.Store, ast.Del)):
                    self.assertNotIn(node.id, taken, (name, node.lineno))
                if isinstance(node, ast.arg):
                    self.assertNotIn(node.arg, taken, (name, node.arg))
            self.assertEqual(len(names_of(tree)), len(set(names_of(tree))), name)

    def test_no_attribute_has_the_name_of_a_method_or_a_property(self):
        methods = {function.name for _, owner, function in functions() if owner}
        for name, node in nodes():
            if isinstance(node, ast.Attribute) and isinstance(node.ctx, ast.Store):
                self.assertNotIn(node.attr, methods, (name, node.lineno))

    def test_no_file_imports_from_one_that_imports_from_it(self):
        imports = {f"wornsteps.{name[:-3]}": [node.module for node in tree.body if isinstance(node, ast.ImportFrom)]
                   for name, tree in trees()}
        left = dict(imports)
        while left:
            free = [name for name in left if not any(other in left for other in left[name])]
            self.assertTrue(free, sorted(left))
            for name in free:
                del left[name]

    def test_no_sort_in_place_and_no_set_that_is_kept(self):
        for name, node in nodes():
            if isinstance(node, ast.Attribute):
                self.assertNotEqual(node.attr, "sort", (name, node.lineno))
            if isinstance(node, (ast.For, ast.comprehension)):
                self.assertNotIsInstance(node.iter, (ast.Set, ast.SetComp), name)

    def test_what_a_loop_goes_over_is_not_changed_in_it(self):
        for name, _, function in functions():
            names = second_names(function)
            for loop, over, parts in walks(function):
                for target in [target for part in parts for target in stored(part)]:
                    self.assertNotIn(names.get(base_of(target), base_of(target)),
                                     [names.get(word, word) for word in names_in(over)], (name, loop.lineno))

    def test_any_all_sum_and_the_like_take_lists(self):
        for name, node in nodes():
            if isinstance(node, ast.Call) and getattr(node.func, "id", "") in "any all min max sum sorted".split():
                self.assertNotIsInstance(node.args[0], ast.GeneratorExp, (name, node.lineno))

    def test_reversed_takes_what_is_plainly_a_list(self):
        for name, node in nodes():
            if isinstance(node, ast.Call) and getattr(node.func, "id", "") == "reversed":
                inner = getattr(getattr(node.args[0], "func", None), "id", "")
                self.assertIn(inner, ("list", "tuple", "sorted", "range"), (name, node.lineno))

    def test_texts_of_objects_are_plain_strings(self):
        for name, _, function in functions():
            if function.name in ("__repr__", "__str__"):
                self.assertIsInstance(function.body[-1], ast.Return, name)
                self.assertIsInstance(function.body[-1].value, (ast.JoinedStr, ast.Constant), name)

    def test_what_leaves_a_block_only_puts_back_what_was_kept(self):
        seen = [function for _, _, function in functions() if function.name == "__exit__"]
        self.assertTrue(seen)
        for function in seen:
            for row in function.body:
                self.assertIsInstance(row, ast.Assign)
                self.assertIsInstance(row.targets[0], ast.Attribute)
                self.assertIsInstance(row.value, ast.Attribute)

    def test_functions_of_tables_are_given_a_name_ahead_of_the_call(self):
        for name, node in nodes():
            if isinstance(node, ast.Call):
                self.assertNotIsInstance(node.func, ast.Subscript, (name, node.lineno))
                for part in node.args:
                    if isinstance(part, ast.Starred):
                        self.assertIsInstance(part.value, ast.Name, (name, node.lineno))

    def test_each_function_and_class_is_told_in_words_unless_it_is_one_of_python_itself(self):
        for name, node in nodes():
            if isinstance(node, (ast.FunctionDef, ast.ClassDef)) and not re.match("__", node.name):
                self.assertTrue(ast.get_docstring(node), (name, node.name))


if __name__ == "__main__":
    unittest.main()
