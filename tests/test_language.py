"""Checks the package against some of the rules of LANGUAGE.md; the others are left to the reader."""

import ast
import builtins
import io
import re
import tokenize
import unittest
import warnings
from pathlib import Path

PACKAGE = Path(__file__).resolve().parent.parent / "upleaf"
FILES = sorted(PACKAGE.rglob("*.py"))

BUILTINS = set("""
len range enumerate zip min max sum abs sorted reversed int str bool bytes list tuple dict set frozenset isinstance
ord repr any all divmod Exception ValueError TypeError KeyError IndexError LookupError ZeroDivisionError
ArithmeticError OverflowError RuntimeError NotImplementedError AttributeError StopIteration NotImplemented
property staticmethod classmethod super
""".split())
BARRED_WORDS = set("""
type typing typing_extensions enum Enum IntEnum StrEnum Flag IntFlag Generic Protocol ABC ABCMeta namedtuple
NamedTuple TypedDict TYPE_CHECKING abstractmethod
""".split())
BARRED_PARTS = ("dataclass", "overload", "contextmanager")
BARRED_NAMES = set("""
register mro elements open input version_info with_traceback add_note format format_map
""".split())
DOUBLE = set("""
__init__ __eq__ __repr__ __str__ __len__ __enter__ __exit__ __call__ __iter__ __all__ __version__ __name__
""".split())
FUNCTIONS = (ast.FunctionDef, ast.AsyncFunctionDef)
MODULE_LEVEL = (ast.ImportFrom, ast.FunctionDef, ast.ClassDef, ast.Assign, ast.AnnAssign)
BARRED_NODES = (
    ast.Global, ast.Import, ast.AsyncFunctionDef, ast.AsyncFor, ast.AsyncWith, ast.Await, ast.Div, ast.MatMult,
)


def names_of(node):
    """The names that a node binds, reads or asks for."""
    if isinstance(node, ast.Name):
        return [node.id]
    if isinstance(node, ast.Attribute):
        return [node.attr]
    if isinstance(node, (*FUNCTIONS, ast.ClassDef)):
        return [node.name]
    if isinstance(node, (ast.arg, ast.keyword)):
        return [node.arg] if node.arg else []
    if isinstance(node, ast.alias):
        return [node.name] + ([node.asname] if node.asname else [])
    return []


def imported_files(tree):
    return [node.module for node in tree.body if isinstance(node, ast.ImportFrom) and node.module != "__future__"]


class Language(unittest.TestCase):
    def each(self):
        return [(path, path.read_text(encoding="utf-8")) for path in FILES]

    def each_tree(self):
        return [(path, ast.parse(text, path.name)) for path, text in self.each()]

    def test_there_are_files(self):
        self.assertIn("__init__.py", [path.name for path in FILES])

    def test_the_folder_has_source_files_alone(self):
        others = [path.name for path in PACKAGE.rglob("*") if path.suffix != ".py" and "__pycache__" not in path.parts]
        self.assertEqual(others, [])
        for path in FILES:
            self.assertRegex(path.stem, r"\A[a-z0-9_]+\Z")
            self.assertTrue(path.stem == "__init__" or not hasattr(builtins, path.stem))

    def test_signs_and_lengths(self):
        for path, text in self.each():
            self.assertRegex(text, r"\A[ -~\n]*\Z")
            rows = text.split("\n")
            self.assertLessEqual(len(rows), 401)
            self.assertLessEqual(max(len(row) for row in rows), 120)

    def test_functions_are_short(self):
        for path, tree in self.each_tree():
            for node in ast.walk(tree):
                if isinstance(node, FUNCTIONS):
                    self.assertLessEqual(node.end_lineno - node.lineno + 1, 40, node.name)

    def test_barred_words(self):
        for path, text in self.each():
            self.assertEqual(set(re.findall(r"\w+", text)) & BARRED_WORDS, set())
            self.assertEqual([part for part in BARRED_PARTS if part in text], [])

    def test_names(self):
        for path, tree in self.each_tree():
            for node in ast.walk(tree):
                for name in names_of(node):
                    self.assertNotIn(name, BARRED_NAMES)
                    if name.startswith("_"):
                        self.assertIn(name, DOUBLE)

    def test_imports(self):
        modules = {"upleaf." + path.stem for path in FILES}
        for path, tree in self.each_tree():
            for node in ast.walk(tree):
                if isinstance(node, ast.ImportFrom):
                    self.assertIn(node, tree.body)
                    self.assertEqual(node.level, 0)
                    self.assertIn(node.module, modules)
                    self.assertNotIn("*", [alias.name for alias in node.names])

    def test_no_two_files_import_from_each_other(self):
        after = {"upleaf." + path.stem: imported_files(tree) for path, tree in self.each_tree()}
        after["upleaf"] = after.pop("upleaf.__init__")
        self.assertEqual(after["upleaf"], [])
        done = []
        while len(done) < len(after):
            free = [name for name in after if name not in done and all(other in done for other in after[name])]
            self.assertNotEqual(free, [])
            done += free

    def test_imported_names_are_defined_in_that_very_file(self):
        defined = {}
        for path, tree in self.each_tree():
            bound = [node.name for node in tree.body if isinstance(node, (ast.FunctionDef, ast.ClassDef))]
            bound += [target.id for node in tree.body if isinstance(node, ast.Assign) for target in node.targets]
            self.assertEqual(len(bound), len(set(bound)))
            defined["upleaf." + path.stem] = bound
        for path, tree in self.each_tree():
            for node in tree.body:
                if isinstance(node, ast.ImportFrom):
                    for alias in node.names:
                        self.assertIn(alias.name, defined[node.module])

    def test_module_level(self):
        for path, tree in self.each_tree():
            for at, node in enumerate(tree.body):
                docstring = at == 0 and isinstance(node, ast.Expr) and isinstance(node.value, ast.Constant)
                self.assertTrue(docstring or isinstance(node, MODULE_LEVEL), node)

    def test_statements_and_signs(self):
        for path, tree in self.each_tree():
            for node in ast.walk(tree):
                self.assertNotIsInstance(node, BARRED_NODES)
                if isinstance(node, ast.Constant):
                    self.assertNotIsInstance(node.value, (float, complex))
                    self.assertNotIn("%", str(node.value))
                if isinstance(node, ast.Compare) and any(isinstance(op, (ast.Is, ast.IsNot)) for op in node.ops):
                    self.assertIsInstance(node.comparators[-1], ast.Constant)

    def test_only_the_listed_builtins(self):
        for path, tree in self.each_tree():
            read = {node.id for node in ast.walk(tree) if isinstance(node, ast.Name)}
            self.assertEqual({name for name in read if hasattr(builtins, name)} - BUILTINS, set())

    def test_no_name_is_a_method_and_an_attribute(self):
        methods, attributes = set(), set()
        for path, tree in self.each_tree():
            for node in ast.walk(tree):
                if isinstance(node, ast.ClassDef):
                    methods |= {row.name for row in node.body if isinstance(row, ast.FunctionDef)}
                if isinstance(node, ast.Attribute) and isinstance(node.ctx, ast.Store):
                    attributes.add(node.attr)
        self.assertEqual(methods & attributes, set())

    def test_no_local_name_is_that_of_an_import_a_class_or_a_builtin(self):
        for path, tree in self.each_tree():
            imports = [node for node in tree.body if isinstance(node, ast.ImportFrom)]
            outer = {alias.asname or alias.name for node in imports for alias in node.names} | set(dir(builtins))
            outer |= {node.name for node in tree.body if isinstance(node, ast.ClassDef)}
            inner = set()
            for node in ast.walk(tree):
                if isinstance(node, ast.arg):
                    inner.add(node.arg)
                if isinstance(node, ast.Name) and isinstance(node.ctx, ast.Store):
                    inner.add(node.id)
                if isinstance(node, ast.ExceptHandler) and node.name:
                    inner.add(node.name)
            self.assertEqual(inner & outer, set(), path.name)

    def test_lists_are_handed_to_what_counts_and_compares(self):
        for path, tree in self.each_tree():
            for node in ast.walk(tree):
                if isinstance(node, ast.Call) and isinstance(node.func, ast.Name):
                    if node.func.id in ("any", "all", "min", "max", "sum", "sorted"):
                        self.assertFalse([handed for handed in node.args if isinstance(handed, ast.GeneratorExp)])
                if isinstance(node, ast.Call) and isinstance(node.func, ast.Attribute):
                    self.assertNotEqual(node.func.attr, "sort")

    def test_sets_are_used_where_they_stand(self):
        for path, tree in self.each_tree():
            for node in ast.walk(tree):
                if isinstance(node, (ast.Assign, ast.Return)):
                    self.assertNotIsInstance(node.value, (ast.Set, ast.SetComp))
                    made = isinstance(node.value, ast.Call) and isinstance(node.value.func, ast.Name)
                    self.assertFalse(made and node.value.func.id in ("set", "frozenset"))

    def test_errors_are_made_where_they_are_raised(self):
        for path, tree in self.each_tree():
            for node in ast.walk(tree):
                if isinstance(node, ast.Raise) and node.exc is not None:
                    self.assertIsInstance(node.exc, ast.Call)
                    self.assertIsInstance(node.exc.func, ast.Name)

    def test_escapes(self):
        for path, text in self.each():
            for token in tokenize.generate_tokens(io.StringIO(text).readline):
                if token.type == tokenize.STRING:
                    self.assertEqual(re.findall(r"\\[^nt\\'\"]", token.string), [])

    def test_python_gives_no_warning(self):
        for path, text in self.each():
            with warnings.catch_warnings():
                warnings.simplefilter("error")
                compile(text, path.name, "exec")


if __name__ == "__main__":
    unittest.main()
