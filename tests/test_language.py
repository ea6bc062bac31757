"""The rules of LANGUAGE.md that can be read off the source files without running them."""

import ast
import pathlib
import re
import unittest

PACKAGE = pathlib.Path(__file__).resolve().parent.parent / "leakyqueue"

# L17: these words do not occur in a file, comments and strings included.
BARRED_WORDS = [
    "type", "typing", "typing_extensions", "enum", "Enum", "IntEnum", "StrEnum", "Flag", "IntFlag", "Generic",
    "Protocol", "ABC", "ABCMeta", "namedtuple", "NamedTuple", "TypedDict", "TYPE_CHECKING", "abstractmethod",
]
BARRED_PARTS = ["dataclass", "overload", "contextmanager"]
BARRED_STATEMENTS = (ast.Global, ast.AsyncFunctionDef, ast.AsyncFor, ast.AsyncWith, ast.Import)


def sources():
    return [(path.name, path.read_text(encoding="ascii")) for path in sorted(PACKAGE.glob("*.py"))]


def nodes(text, kinds):
    return [node for node in ast.walk(ast.parse(text)) if isinstance(node, kinds)]


def bound_names(text):
    """The names that a file gives to functions, classes, parameters, variables and attributes."""
    names = [node.name for node in nodes(text, (ast.FunctionDef, ast.ClassDef))]
    names += [node.arg for node in nodes(text, ast.arg)]
    names += [node.id for node in nodes(text, ast.Name)]
    return names + [node.attr for node in nodes(text, ast.Attribute)]


class Language(unittest.TestCase):
    def test_files(self):
        names = sorted(path.name for path in PACKAGE.iterdir() if path.name != "__pycache__")
        self.assertIn("__init__.py", names)
        for name in names:
            self.assertRegex(name, r"^[a-z0-9_]+\.py$")

    def test_characters_and_sizes(self):
        for name, text in sources():
            with self.subTest(file=name):
                self.assertRegex(text, r"\A[ -~\n]*\Z")
                self.assertLessEqual(len(text.splitlines()), 400)
                self.assertLessEqual(max([0] + [len(line) for line in text.splitlines()]), 120)
                for function in nodes(text, ast.FunctionDef):
                    self.assertLessEqual(function.end_lineno - function.lineno + 1, 40, function.name)

    def test_imports(self):
        for name, text in sources():
            with self.subTest(file=name):
                for node in nodes(text, ast.ImportFrom):
                    self.assertEqual(node.level, 0)
                    self.assertRegex(node.module, r"^leakyqueue\.[a-z]+$")
                    self.assertNotIn("*", [alias.name for alias in node.names])

    def test_barred_words_and_statements(self):
        for name, text in sources():
            with self.subTest(file=name):
                words = re.findall(r"\w+", text)
                self.assertEqual([word for word in words if word in BARRED_WORDS], [])
                self.assertEqual([part for part in BARRED_PARTS if part in text], [])
                self.assertEqual(nodes(text, BARRED_STATEMENTS), [])

    def test_plain_names(self):
        for name, text in sources():
            with self.subTest(file=name):
                for bound in bound_names(text):
                    self.assertRegex(bound, r"^([A-Za-z][A-Za-z0-9_]*|__[a-z]+__)$")


if __name__ == "__main__":
    unittest.main()
