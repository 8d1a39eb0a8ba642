"""Those rules of the language that are easily seen in a file."""

import ast
import builtins
import re
import unittest
from pathlib import Path

PACKAGE = Path(__file__).resolve().parent.parent / "sizechains"
FILES = sorted(PACKAGE.rglob("*.py"))

ALLOWED_BUILTINS = set(
    "len range enumerate zip min max sum abs sorted reversed int str bool bytes list tuple dict set isinstance ord "
    "repr any all divmod iter next super property staticmethod classmethod Exception ValueError TypeError KeyError "
    "IndexError LookupError ZeroDivisionError ArithmeticError OverflowError RuntimeError NotImplementedError "
    "AttributeError StopIteration NotImplemented".split())
BARRED_BUILTINS = {name for name in dir(builtins) if name[0] != "_"} - ALLOWED_BUILTINS
BARRED_WORDS = re.compile(
    r"\b(type|typing|typing_extensions|enum|Enum|IntEnum|StrEnum|Flag|IntFlag|Generic|Protocol|ABC|ABCMeta|namedtuple|"
    r"NamedTuple|TypedDict|TYPE_CHECKING|abstractmethod)\b|dataclass|overload|contextmanager")
BARRED_NODES = (ast.Import, ast.Global, ast.AsyncFunctionDef, ast.AsyncFor, ast.AsyncWith, ast.Await, ast.Div)
DEFINITIONS = (ast.FunctionDef, ast.ClassDef)


def names_defined_in(path):
    """Return the names that a file binds at module level, other than by imports."""
    names = set()
    for statement in ast.parse(path.read_text()).body:
        if isinstance(statement, DEFINITIONS):
            names.add(statement.name)
        elif isinstance(statement, ast.Assign):
            names.add(statement.targets[0].id)
    return names


def names_in(tree):
    """Return all names that stand anywhere in a file."""
    for node in ast.walk(tree):
        if isinstance(node, ast.Name):
            yield node.id
        elif isinstance(node, ast.Attribute):
            yield node.attr
        elif isinstance(node, ast.arg):
            yield node.arg
        elif isinstance(node, DEFINITIONS):
            yield node.name


class LanguageTest(unittest.TestCase):

    def check_files(self, check):
        self.assertNotEqual(FILES, [])
        for path in FILES:
            with self.subTest(file=path.name):
                check(path, path.read_text())

    def test_the_folder_holds_nothing_else(self):
        for path in PACKAGE.iterdir():
            self.assertTrue(path.name == "__pycache__" or re.fullmatch(r"[a-z_]+\.py", path.name), path)

    def test_lengths_and_characters(self):
        def check(path, text):
            lines = text.splitlines()
            self.assertLessEqual(len(lines), 399)
            self.assertLessEqual(max(map(len, lines)), 120)
            self.assertRegex(text, r"\A[ -~\n]*\Z")
            for node in ast.walk(ast.parse(text)):
                if isinstance(node, ast.FunctionDef):
                    self.assertLessEqual(node.end_lineno - node.lineno + 1, 40, node.name)
        self.check_files(check)

    def test_imports_name_the_file_that_defines_the_name(self):
        def check(path, text):
            for node in ast.walk(ast.parse(text)):
                if isinstance(node, ast.ImportFrom):
                    self.assertEqual(node.level, 0)
                    self.assertRegex(node.module, r"\Asizechains\.[a-z_]+\Z")
                    source = PACKAGE / f"{node.module.partition('.')[2]}.py"
                    self.assertLessEqual({alias.name for alias in node.names}, names_defined_in(source))
        self.check_files(check)

    def test_barred_words_and_statements(self):
        def check(path, text):
            self.assertNotRegex(text, BARRED_WORDS)
            for node in ast.walk(ast.parse(text)):
                self.assertNotIsInstance(node, BARRED_NODES)
                if isinstance(node, ast.Constant):
                    self.assertNotIsInstance(node.value, (float, complex))
                    self.assertFalse(isinstance(node.value, str) and "%" in node.value)
        self.check_files(check)

    def test_names(self):
        def check(path, text):
            for name in names_in(ast.parse(text)):
                self.assertRegex(name, r"\A([A-Za-z]|__[a-z]+__\Z)")
                self.assertNotIn(name, BARRED_BUILTINS)
        self.check_files(check)

    def test_no_variable_has_the_name_of_a_class_or_an_import(self):
        def check(path, text):
            tree = ast.parse(text)
            taken = {node.name for node in tree.body if isinstance(node, ast.ClassDef)}
            for node in tree.body:
                if isinstance(node, ast.ImportFrom):
                    taken |= {alias.name for alias in node.names}
            for node in ast.walk(tree):
                if isinstance(node, ast.arg):
                    self.assertNotIn(node.arg, taken)
                elif isinstance(node, ast.Name) and isinstance(node.ctx, ast.Store):
                    self.assertNotIn(node.id, taken)
        self.check_files(check)

    def test_no_name_is_a_method_here_and_an_attribute_there(self):
        methods, attributes = set(), set()
        for path in FILES:
            for node in ast.walk(ast.parse(path.read_text())):
                if isinstance(node, ast.ClassDef):
                    methods |= {member.name for member in node.body if isinstance(member, ast.FunctionDef)}
                elif isinstance(node, ast.Attribute) and isinstance(node.ctx, ast.Store):
                    attributes.add(node.attr)
        self.assertEqual(methods & attributes, set())


if __name__ == "__main__":
    unittest.main()
