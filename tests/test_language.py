"""The rules of the language that can be read off the files of the package."""

import ast
import builtins
import pathlib
import re
import unittest

FOLDER = pathlib.Path(__file__).resolve().parent.parent / "timerdeque"
BUILTINS = set("""len range enumerate zip min max sum abs sorted reversed int str bool bytes list tuple dict set
    frozenset isinstance ord repr any all divmod Exception ValueError TypeError KeyError IndexError LookupError
    ZeroDivisionError RuntimeError iter next""".split())
METHODS = set("__init__ __eq__ __repr__ __str__ __len__ __enter__ __exit__ __call__ __iter__".split())
WORDS = set("""type typing typing_extensions enum Enum IntEnum StrEnum Flag IntFlag Generic Protocol ABC ABCMeta
    namedtuple NamedTuple TypedDict TYPE_CHECKING abstractmethod""".split())
NAMES = set("""register mro elements open input law version_info with_traceback add_note breakpoint compile delattr
    dir eval exec exit getattr globals hasattr help id locals setattr super vars""".split())
# A generator expression is allowed in few places only beside a class with __eq__: the package has none.
UNUSED = (ast.Global, ast.AsyncFunctionDef, ast.AsyncFor, ast.AsyncWith, ast.Await, ast.TryStar, ast.Div,
          ast.GeneratorExp)
CAUGHT = {"KeyError", "ZeroDivisionError"}


def bound_names(tree):
    """The names that parameters, assignments, loops, imports, functions and classes give."""
    for node in ast.walk(tree):
        if isinstance(node, ast.arg):
            yield node.arg
        elif isinstance(node, ast.Name) and not isinstance(node.ctx, ast.Load):
            yield node.id
        elif isinstance(node, (ast.FunctionDef, ast.ClassDef)):
            yield node.name
        elif isinstance(node, ast.alias):
            yield node.asname or node.name


class Language(unittest.TestCase):
    def setUp(self):
        self.texts = {path.name: path.read_text("ascii") for path in sorted(FOLDER.glob("*.py"))}
        self.trees = {name: ast.parse(text) for name, text in self.texts.items()}

    def nodes(self, *kinds):
        for name, tree in self.trees.items():
            for node in ast.walk(tree):
                if isinstance(node, kinds):
                    yield f"{name}:{getattr(node, 'lineno', 0)}", node

    def test_the_folder_holds_files_with_plain_names_alone(self):
        found = [path.name for path in FOLDER.iterdir() if path.name != "__pycache__"]
        self.assertEqual(sorted(found), sorted(self.texts))
        self.assertIn("__init__.py", found)
        for name in found:
            self.assertRegex(name, r"^([a-z][a-z0-9_]*|__init__)\.py$")

    def test_sizes_and_characters(self):
        for name, text in self.texts.items():
            lines = text.split("\n")
            self.assertLessEqual(len(lines), 399, name)
            for at, line in enumerate(lines, 1):
                self.assertRegex(line, r"^[ -~]{0,120}$", f"{name}:{at}")
        for where, node in self.nodes(ast.FunctionDef):
            self.assertLessEqual(node.end_lineno - node.lineno + 1, 40, where)

    def test_words_that_do_not_occur(self):
        for name, text in self.texts.items():
            self.assertEqual(WORDS & set(re.findall(r"\w+", text)), set(), name)
            self.assertIsNone(re.search("dataclass|overload|contextmanager", text), name)

    def test_imports(self):
        for where, node in self.nodes(ast.Import):
            self.fail(where)
        for where, node in self.nodes(ast.ImportFrom):
            self.assertEqual(node.level, 0, where)
            package, file = node.module.split(".")
            self.assertEqual(package, "timerdeque", where)
            made = [part.name if hasattr(part, "name") else part.targets[0].id
                    for part in self.trees[file + ".py"].body if not isinstance(part, (ast.Expr, ast.ImportFrom))]
            for alias in node.names:
                self.assertIn(alias.name, made, where)

    def test_module_level(self):
        for name, tree in self.trees.items():
            for at, node in enumerate(tree.body):
                plain = isinstance(node, (ast.ImportFrom, ast.FunctionDef, ast.ClassDef, ast.Assign))
                self.assertTrue(plain or (at == 0 and ast.get_docstring(tree)), f"{name}:{node.lineno}")

    def test_names(self):
        for name, tree in self.trees.items():
            for given in bound_names(tree):
                if given not in METHODS:
                    self.assertRegex(given, r"^[A-Za-z][A-Za-z0-9_]*$", name)
                    self.assertNotIn(given, NAMES, name)
                    self.assertNotIn(given, set(dir(builtins)), name)

    def test_no_local_has_the_name_of_a_class_an_import_or_a_function(self):
        for name, tree in self.trees.items():
            outer = set()
            for node in tree.body:
                outer |= set(bound_names(node)) if isinstance(node, (ast.ImportFrom, ast.Assign)) else set()
                outer |= {node.name} if isinstance(node, (ast.FunctionDef, ast.ClassDef)) else set()
            for where, node in self.nodes(ast.FunctionDef):
                if where.startswith(name + ":"):
                    inner = set(bound_names(node)) - {node.name}
                    self.assertEqual(inner & outer, set(), where)

    def test_builtins(self):
        for name, tree in self.trees.items():
            known = set(bound_names(tree)) | BUILTINS
            for node in ast.walk(tree):
                if isinstance(node, ast.Name):
                    self.assertIn(node.id, known, f"{name}:{node.lineno}")

    def test_no_method_is_an_attribute(self):
        methods = {node.name for where, kind in self.nodes(ast.ClassDef) for node in kind.body
                   if isinstance(node, ast.FunctionDef)}
        stored = {node.attr for where, node in self.nodes(ast.Attribute) if isinstance(node.ctx, ast.Store)}
        self.assertEqual(methods & stored, set())

    def test_parts_of_the_language_that_are_not_used(self):
        for where, node in self.nodes(*UNUSED):
            self.fail(f"{where} {node}")
        for where, node in self.nodes(ast.BinOp):
            if isinstance(node.op, ast.Pow):
                self.assertIsInstance(node.right, ast.Constant, where)
        for where, node in self.nodes(ast.Attribute):
            self.assertNotEqual(node.attr, "sort", where)
        for where, node in self.nodes(ast.Constant):
            self.assertNotIsInstance(node.value, (float, complex), where)
            if isinstance(node.value, str):
                self.assertNotIn("%", node.value, where)
        for where, node in self.nodes(ast.Compare):
            for sign, value in zip(node.ops, node.comparators):
                if isinstance(sign, (ast.Is, ast.IsNot)):
                    self.assertIn(repr(getattr(value, "value", value)), ("None", "True", "False"), where)

    def test_errors_are_caught_by_name(self):
        own = {node.name for node in self.trees["errors.py"].body if isinstance(node, ast.ClassDef)}
        for where, node in self.nodes(ast.ExceptHandler):
            named = node.type.elts if isinstance(node.type, ast.Tuple) else [node.type]
            for kind in named:
                self.assertIsInstance(kind, ast.Name, where)
                self.assertIn(kind.id, own | CAUGHT, where)

    def test_errors_are_made_on_the_spot(self):
        for where, node in self.nodes(ast.Raise):
            if node.exc is not None:
                self.assertIsInstance(node.exc, ast.Call, where)
                self.assertIsInstance(node.exc.func, ast.Name, where)


if __name__ == "__main__":
    unittest.main()
