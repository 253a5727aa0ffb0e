"""Those rules of the language that can be seen file by file: L1 to L4, L8, L10, L12, L14 to L17, L20, L25 and L27."""

import ast
import builtins
import pathlib
import re
import unittest

PACKAGE = pathlib.Path(__file__).resolve().parent.parent / "nearplace"
FILES = sorted(path for path in PACKAGE.iterdir() if path.name != "__pycache__")
BUILTINS = set(
    "len range enumerate zip min max sum abs sorted reversed int str bool bytes list tuple dict set frozenset "
    "isinstance ord repr any all divmod Exception ValueError TypeError KeyError IndexError LookupError "
    "ZeroDivisionError ArithmeticError OverflowError RuntimeError NotImplementedError AttributeError StopIteration "
    "NotImplemented".split()
)
WORDS = (
    "type typing typing_extensions enum Enum IntEnum StrEnum Flag IntFlag Generic Protocol ABC ABCMeta namedtuple "
    "NamedTuple TypedDict TYPE_CHECKING abstractmethod"
).split()
NO_NAMES = "register mro elements open input version_info with_traceback add_note".split()
METHODS = ["__init__"]
METHODS_OF_VALUES = (
    "append clear copy count endswith extend find get index insert isalnum isalpha isdigit islower isspace isupper items "
    "join keys ljust lower lstrip partition pop remove replace reverse rfind rjust rpartition rsplit rstrip setdefault "
    "split splitlines startswith strip update upper values zfill bit_length isascii isdecimal add"
).split()


def nodes(path):
    return list(ast.walk(ast.parse(path.read_text())))


def names_given(node):
    """The names to which a node gives a meaning."""
    if isinstance(node, (ast.FunctionDef, ast.ClassDef)):
        return [node.name]
    if isinstance(node, ast.arg):
        return [node.arg]
    if isinstance(node, ast.alias):
        return [node.asname or node.name]
    if isinstance(node, ast.Name) and not isinstance(node.ctx, ast.Load):
        return [node.id]
    return []


def top_names(node):
    return list(node.targets) if isinstance(node, ast.Assign) else []


class Language(unittest.TestCase):
    def test_files(self):
        self.assertIn("__init__.py", [path.name for path in FILES])
        for path in FILES:
            self.assertRegex(path.name, r"^(__init__|[a-z][a-z0-9_]*)\.py$")

    def test_sizes_and_signs(self):
        for path in FILES:
            text = path.read_text()
            self.assertLessEqual(len(text.splitlines()), 400, path)
            self.assertTrue(all(len(line) <= 120 for line in text.splitlines()), path)
            self.assertRegex(text, r"^[ -~\n]*$", path)
            for node in nodes(path):
                if isinstance(node, ast.FunctionDef):
                    self.assertLessEqual(node.end_lineno - node.lineno + 1, 40, node.name)

    def test_words_that_are_not_used(self):
        for path in FILES:
            for word in WORDS:
                self.assertIsNone(re.search(r"\b" + word + r"\b", path.read_text()), (path, word))

    def test_imports(self):
        for path in FILES:
            for node in nodes(path):
                self.assertNotIsInstance(node, ast.Import, path)
                if isinstance(node, ast.ImportFrom):
                    self.assertEqual(0, node.level, path)
                    self.assertIn((PACKAGE / (node.module.removeprefix("nearplace.") + ".py")), FILES, path)

    def test_imports_name_the_file_that_defines_and_go_in_no_circle(self):
        imports, defined = {}, {}
        for path in FILES:
            tree = ast.parse(path.read_text())
            found = [node for node in tree.body if isinstance(node, ast.ImportFrom)]
            imports[path.stem] = {(node.module.removeprefix("nearplace."), each.name) for node in found for each in node.names}
            given = [part for node in tree.body if not isinstance(node, ast.ImportFrom) for part in [node] + top_names(node)]
            defined[path.stem] = {name for node in given for name in names_given(node)}
        for name in imports:
            self.assertTrue(all(each in defined[module] for module, each in imports[name]), name)
        ahead = set()
        while len(ahead) < len(imports):
            free = {name for name in imports if {module for module, each in imports[name]} <= ahead} - ahead
            self.assertTrue(free, imports)
            ahead |= free

    def test_module_level(self):
        for path in FILES:
            for at, node in enumerate(ast.parse(path.read_text()).body):
                docstring = at == 0 and isinstance(node, ast.Expr) and isinstance(node.value, ast.Constant)
                kinds = (ast.ImportFrom, ast.FunctionDef, ast.ClassDef, ast.Assign)
                self.assertTrue(docstring or isinstance(node, kinds), (path, node.lineno))
                if isinstance(node, ast.Assign):
                    self.assertFalse([part for part in ast.walk(node.value) if isinstance(part, ast.Call)], path)

    def test_methods_of_values(self):
        own = {node.name for path in FILES for node in nodes(path) if isinstance(node, ast.FunctionDef)}
        for path in FILES:
            for node in nodes(path):
                if isinstance(node, ast.FunctionDef):
                    self.assertEqual([], node.decorator_list, path)
                if isinstance(node, ast.Call) and isinstance(node.func, ast.Attribute):
                    self.assertIn(node.func.attr, METHODS_OF_VALUES + sorted(own), (path, node.lineno))

    def test_names(self):
        for path in FILES:
            for node in nodes(path):
                for name in names_given(node):
                    if name not in METHODS:
                        self.assertRegex(name, r"^[A-Za-z][A-Za-z0-9_]*$", path)
                        self.assertFalse(hasattr(builtins, name), (path, name))
                    self.assertNotIn(name, NO_NAMES, path)
                if isinstance(node, ast.Attribute):
                    self.assertNotIn(node.attr, NO_NAMES, path)
                if isinstance(node, ast.Name) and hasattr(builtins, node.id):
                    self.assertIn(node.id, BUILTINS, path)

    def test_no_local_name_is_an_imported_one(self):
        for path in FILES:
            given = [name for node in nodes(path) for name in names_given(node) if not isinstance(node, ast.alias)]
            imported = [name for node in nodes(path) if isinstance(node, ast.alias) for name in names_given(node)]
            self.assertFalse(set(given) & set(imported), path)
            self.assertEqual(len(imported), len(set(imported)), path)

    def test_expressions(self):
        for path in FILES:
            for node in nodes(path):
                self.assertNotIsInstance(node, (ast.Div, ast.Global, ast.AsyncFunctionDef), path)
                if isinstance(node, ast.Constant):
                    self.assertNotIsInstance(node.value, (float, complex), path)
                    self.assertFalse(isinstance(node.value, str) and "%" in node.value, path)
                if isinstance(node, ast.Compare) and isinstance(node.ops[0], (ast.Is, ast.IsNot)):
                    self.assertIsInstance(node.comparators[0], ast.Constant, path)


if __name__ == "__main__":
    unittest.main()
