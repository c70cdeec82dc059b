"""The rules of form that can be read off the files: sizes, characters, imports, names and words."""

import ast
import builtins
import re
import unittest
from pathlib import Path

PACKAGE = Path(__file__).resolve().parent.parent / "yesifs"
FILES = sorted(PACKAGE.glob("*.py"))
TREES = {path: ast.parse(path.read_text()) for path in FILES}
NEVER = (ast.AsyncFunctionDef, ast.AsyncFor, ast.AsyncWith, ast.Await, ast.Div, ast.MatMult)
BUILTINS = set(
    "len range enumerate zip min max sum abs sorted reversed int str bool bytes list tuple dict set frozenset "
    "isinstance ord repr any all divmod pow getattr hasattr setattr iter next map type super property staticmethod "
    "classmethod Exception ValueError TypeError KeyError IndexError LookupError ZeroDivisionError ArithmeticError "
    "OverflowError RuntimeError NotImplementedError AttributeError StopIteration NotImplemented".split())
METHODS = set(
    "append clear copy count endswith extend find get index insert isalnum isalpha isdigit islower isspace isupper "
    "items join keys ljust lower lstrip partition pop remove replace reverse rfind rjust rpartition rsplit rstrip "
    "setdefault split splitlines startswith strip update upper values zfill bit_length title capitalize swapcase "
    "casefold center expandtabs removeprefix removesuffix rindex isascii isdecimal isnumeric istitle isidentifier "
    "isprintable translate sort format encode decode hex add discard".split())
PLAIN_METHODS = {name for kind in (str, int, list, tuple, dict, set, bytes) for name in dir(kind)}


def nodes(kind):
    return [(path, node) for path, tree in TREES.items() for node in ast.walk(tree) if isinstance(node, kind)]


def is_truth(node):
    """Whether an expression is True or False as far as one sees, if the functions that it calls are so."""
    if isinstance(node, ast.BoolOp):
        return all(is_truth(part) for part in node.values)
    if isinstance(node, ast.IfExp):
        return is_truth(node.body) and is_truth(node.orelse)
    if isinstance(node, ast.UnaryOp):
        return isinstance(node.op, ast.Not)
    if isinstance(node, ast.Constant):
        return isinstance(node.value, bool)
    return isinstance(node, (ast.Compare, ast.Call)) or isinstance(node, ast.Name) and node.id.startswith("is_")


class Form(unittest.TestCase):
    def test_the_folder_holds_only_plain_files(self):
        self.assertIn(PACKAGE / "__init__.py", FILES)
        for path in PACKAGE.iterdir():
            if path.name != "__pycache__":
                self.assertRegex(path.name, r"^[a-z0-9_]+\.py$")

    def test_sizes_and_characters(self):
        for path in FILES:
            text = path.read_text()
            self.assertLessEqual(len(text.splitlines()), 399, path)
            self.assertLessEqual(max(len(line) for line in text.splitlines()), 120, path)
            self.assertRegex(text, r"\A[ -~\n]*\Z", path)
        for path, node in nodes(ast.FunctionDef):
            self.assertLessEqual(node.end_lineno - node.lineno + 1, 40, node.name)

    def test_imports_name_the_defining_file(self):
        defined = {path.stem: {node.name for node in tree.body if isinstance(node, (ast.FunctionDef, ast.ClassDef))}
                   for path, tree in TREES.items()}
        for path, node in nodes(ast.ImportFrom):
            self.assertIn(node, TREES[path].body)
            package, _, module = node.module.partition(".")
            if package == "yesifs":
                self.assertEqual(node.level, 0)
                self.assertEqual([name.name for name in node.names if name.name not in defined[module]], [])
            else:
                self.assertIn(package, ("heapq", "math", "itertools", "collections", "__future__"))
        self.assertEqual(nodes(ast.Import), [])

    def test_no_circles_of_imports(self):
        reach = {path.stem: {node.module.partition(".")[2] for node in ast.walk(tree)
                             if isinstance(node, ast.ImportFrom) and node.module.startswith("yesifs.")}
                 for path, tree in TREES.items()}
        for _ in list(reach):
            reach = {name: found.union(*[reach[other] for other in found]) for name, found in reach.items()}
        self.assertEqual([name for name, found in reach.items() if name in found], [])

    def test_what_modules_hold(self):
        for path, tree in TREES.items():
            self.assertIsNotNone(ast.get_docstring(tree), path)
            for node in tree.body[1:]:
                self.assertIsInstance(node, (ast.ImportFrom, ast.FunctionDef, ast.ClassDef, ast.Assign))

    def test_what_is_not_used_here(self):
        # Some of this is allowed, with rules of its own; without it there is nothing to check.
        barred = (ast.GeneratorExp, ast.Lambda, ast.Try, ast.Global, ast.Nonlocal, ast.With, ast.Match, ast.Yield,
                  ast.YieldFrom, ast.Starred, ast.NamedExpr, ast.Assert, ast.Delete, ast.AnnAssign)
        self.assertEqual([(path.name, node.lineno) for path, node in nodes(barred)], [])
        for path, node in nodes((ast.FunctionDef, ast.ClassDef)):
            self.assertEqual(node.decorator_list, [], node.name)
        for path, node in nodes(ast.FunctionDef):
            inner = [part for part in ast.walk(node) if isinstance(part, ast.FunctionDef)]
            self.assertEqual(inner, [node])
            self.assertEqual((node.args.defaults, node.args.kwonlyargs, node.args.vararg, node.args.kwarg),
                             ([], [], None, None), node.name)

    def test_methods_and_attributes_of_the_package_have_different_names(self):
        methods = {part.name for path, node in nodes(ast.ClassDef) for part in node.body
                   if isinstance(part, ast.FunctionDef)}
        assigned = {node.attr for path, node in nodes(ast.Attribute) if isinstance(node.ctx, ast.Store)}
        self.assertEqual(methods & assigned, set())
        self.assertEqual((methods | assigned) & PLAIN_METHODS, {"__init__", "__eq__"})
        read = {node.attr for path, node in nodes(ast.Attribute) if isinstance(node.ctx, ast.Load)}
        self.assertEqual(read - methods - assigned - METHODS, {"__init__"} & read)

    def test_names(self):
        for path, node in nodes(ast.Name):
            self.assertFalse(node.id == "_" and isinstance(node.ctx, ast.Load), (path.name, node.lineno))
            self.assertFalse(node.id.startswith("__"), (path.name, node.lineno))
        for path, node in nodes((ast.FunctionDef, ast.ClassDef)):
            self.assertRegex(node.name, r"^[A-Za-z][A-Za-z0-9_]*$|^__(init|eq)__$")

    def test_strings(self):
        for path, tree in TREES.items():
            told = {ast.get_docstring(node, clean=False) for node in ast.walk(tree)
                    if isinstance(node, (ast.Module, ast.ClassDef, ast.FunctionDef))}
            for node in ast.walk(tree):
                if isinstance(node, ast.Constant) and isinstance(node.value, str) and node.value not in told:
                    self.assertRegex(node.value, r"^[-a-z, ]*$|^\n$", path)

    def test_each_function_that_says_so_returns_true_or_false(self):
        # Each return of such a function is a comparison, a literal, or made of such ones and calls.
        for path, node in nodes(ast.FunctionDef):
            if node.name.startswith(("is_", "are_", "may_", "does_", "has_")) or node.name.endswith("_holds"):
                for part in ast.walk(node):
                    if isinstance(part, ast.Return):
                        self.assertTrue(is_truth(part.value), (path.name, part.lineno))

    def test_what_is_never_used(self):
        self.assertEqual([(path.name, node.lineno) for path, node in nodes(NEVER)], [])
        self.assertEqual([node.lineno for path, node in nodes(ast.Constant) if isinstance(node.value, float)], [])

    def test_builtins_and_methods(self):
        for path, node in nodes(ast.Name):
            self.assertFalse(hasattr(builtins, node.id) and node.id not in BUILTINS, (path.name, node.id))
        for path, node in nodes(ast.Attribute):
            if node.attr in PLAIN_METHODS:
                self.assertIn(node.attr, METHODS | {"__init__"}, (path.name, node.lineno))

    def test_sets_are_not_iterated(self):
        for path, node in nodes((ast.For, ast.comprehension)):
            made = isinstance(node.iter, ast.Call) and isinstance(node.iter.func, ast.Name) and node.iter.func.id
            self.assertNotIn(made, ("set", "frozenset"), path)
            self.assertNotIsInstance(node.iter, (ast.Set, ast.SetComp, ast.BinOp), path)

    def test_sets_and_combinations_stand_only_where_they_may(self):
        for path, tree in TREES.items():
            above = {child: node for node in ast.walk(tree) for child in ast.iter_child_nodes(node)}
            for node in ast.walk(tree):
                called = node.func.id if isinstance(node, ast.Call) and isinstance(node.func, ast.Name) else ""
                if called == "set" or isinstance(node, (ast.Set, ast.SetComp)):
                    around = above[node]
                    while isinstance(around, ast.BinOp):
                        around = above[around]
                    self.assertIsInstance(around, (ast.Call, ast.Compare), (path.name, node.lineno))
                    if isinstance(around, ast.Call):
                        self.assertIn(ast.unparse(around.func), ("sorted", "len"), (path.name, node.lineno))
                        self.assertEqual((len(around.args), around.keywords), (1, []), (path.name, node.lineno))
                if called in ("combinations", "permutations", "product"):
                    self.assertIsInstance(above[node], (ast.For, ast.comprehension), (path.name, node.lineno))

    def test_no_two_of_a_method_an_attribute_and_a_class_value_share_a_name(self):
        for path, node in nodes(ast.ClassDef):
            methods = [part.name for part in node.body if isinstance(part, ast.FunctionDef)]
            self.assertEqual(len(set(methods)), len(methods), node.name)
            assigned = {part.attr for part in ast.walk(node) if isinstance(part, ast.Attribute)
                        and isinstance(part.ctx, ast.Store)}
            self.assertFalse(assigned & (set(methods) | PLAIN_METHODS), node.name)

    def test_no_name_hides_a_builtin_a_class_or_an_import(self):
        for path, tree in TREES.items():
            taken = {alias.name for node in tree.body if isinstance(node, ast.ImportFrom) for alias in node.names}
            taken |= {node.name for node in tree.body if isinstance(node, ast.ClassDef)} | set(dir(builtins))
            names = [node.arg for node in ast.walk(tree) if isinstance(node, ast.arg)]
            names += [node.id for node in ast.walk(tree) if isinstance(node, ast.Name)
                      and isinstance(node.ctx, ast.Store)]
            self.assertEqual([name for name in names if name in taken or name.startswith("__")], [], path)

    def test_words_that_are_not_used(self):
        barred = re.compile(r"\b(typing|enum|Enum|Protocol|ABC|namedtuple|register|elements|mro|breakpoint|locals)\b"
                            "|dataclass|overload|contextmanager|_wall")
        for path in FILES:
            self.assertIsNone(barred.search(path.read_text()), path)


if __name__ == "__main__":
    unittest.main()
