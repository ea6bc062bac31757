"""The rules of LANGUAGE.md that can be read off the source files without running them."""

import ast
import builtins
import pathlib
import re
import unittest

PACKAGE = pathlib.Path(__file__).resolve().parent.parent / "leakyqueue"

# L17: these words do not occur in a file, comments and strings included.
BARRED_WORDS = [
    "type", "typing", "typing_extensions", "enum", "Enum", "IntEnum", "StrEnum", "Flag", "IntFlag", "Generic",
    "Protocol", "ABC", "ABCMeta", "namedtuple", "NamedTuple", "TypedDict", "TYPE_CHECKING", "abstractmethod",
]
BARRED_PARTS = ["dataclass", "overload", "contextmanager"]
BARRED_NAMES = ["register", "mro", "elements", "open", "input", "version_info", "with_traceback", "add_note", "args"]
BARRED_STATEMENTS = (ast.Global, ast.AsyncFunctionDef, ast.AsyncFor, ast.AsyncWith, ast.Import, ast.Div)

# L8, without what L27 removes and what this package does not need.
ALLOWED_BUILTINS = [
    "len", "range", "enumerate", "zip", "min", "max", "sum", "abs", "sorted", "reversed", "int", "str", "bool", "list",
    "tuple", "dict", "set", "isinstance", "ord", "repr", "any", "all", "divmod", "super", "property", "staticmethod",
    "classmethod", "Exception", "ValueError", "KeyError", "IndexError", "LookupError", "OverflowError", "RuntimeError",
]
# L5: the package has no operators.
ALLOWED_SPECIAL_METHODS = ["__init__", "__eq__", "__repr__", "__len__"]
# L7: a generator expression may stand in these where a class has its own equality.
ALLOWED_AROUND_GENERATORS = ["list", "tuple", "dict", "join"]
# L25: the first list, one additional method, and what L24 allows for stored sets.
ALLOWED_METHODS = (
    "append clear copy count endswith extend find get index insert isalnum isalpha isdigit islower isspace isupper items"
    " join keys ljust lower lstrip partition pop remove replace reverse rfind rjust rpartition rsplit rstrip setdefault"
    " split splitlines startswith strip update upper values zfill bit_length removeprefix add discard"
).split()


def sources():
    return [(path.name, path.read_text(encoding="ascii")) for path in sorted(PACKAGE.glob("*.py"))]


def nodes(text, kinds):
    return [node for node in ast.walk(ast.parse(text)) if isinstance(node, kinds)]


def bound_names(text):
    """The names that a file gives to functions, classes, parameters, variables and attributes."""
    names = [node.name for node in nodes(text, (ast.FunctionDef, ast.ClassDef))]
    names += [node.arg for node in nodes(text, ast.arg)]
    names += [node.id for node in nodes(text, ast.Name)]
    return names + [node.attr for node in nodes(text, ast.Attribute)]


def local_names(text):
    """The names of parameters and variables, in functions and at module level."""
    return [node.arg for node in nodes(text, ast.arg)] + assigned_names(text)


def assigned_names(text):
    return [node.id for node in nodes(text, ast.Name) if isinstance(node.ctx, ast.Store)]


def imported_names(text):
    return [alias.asname or alias.name for node in nodes(text, ast.ImportFrom) for alias in node.names]


def class_names(text):
    return [node.name for node in nodes(text, ast.ClassDef)]


def top_names(text):
    """The names that a file binds at module level, each as often as it is bound."""
    names = []
    for node in ast.parse(text).body:
        if isinstance(node, (ast.FunctionDef, ast.ClassDef)):
            names.append(node.name)
        elif isinstance(node, ast.Assign):
            names += [target.id for target in node.targets]
        elif isinstance(node, ast.ImportFrom):
            names += [alias.asname or alias.name for alias in node.names]
    return names


def methods(text):
    return [item for node in nodes(text, ast.ClassDef) for item in node.body if isinstance(item, ast.FunctionDef)]


def stored_attributes(text):
    return [node.attr for node in nodes(text, ast.Attribute) if isinstance(node.ctx, ast.Store)]


def called_name(call):
    return call.func.attr if isinstance(call.func, ast.Attribute) else getattr(call.func, "id", None)


class Files(unittest.TestCase):
    def test_files(self):
        names = sorted(path.name for path in PACKAGE.iterdir() if path.name != "__pycache__")
        self.assertIn("__init__.py", names)
        for name in names:
            self.assertRegex(name, r"^[a-z0-9_]+\.py$")
            self.assertNotIn(name[:-3], [word for word in dir(builtins) if not word.startswith("__")])

    def test_characters_and_sizes(self):
        for name, text in sources():
            with self.subTest(file=name):
                self.assertRegex(text, r"\A[ -~\n]*\Z")
                self.assertLessEqual(len(text.splitlines()), 400)
                self.assertLessEqual(max([0] + [len(line) for line in text.splitlines()]), 120)
                for function in nodes(text, ast.FunctionDef):
                    self.assertLessEqual(function.end_lineno - function.lineno + 1, 40, function.name)

    def test_imports(self):
        texts = dict(sources())
        for name, text in sources():
            with self.subTest(file=name):
                for node in nodes(text, ast.ImportFrom):
                    self.assertEqual(node.level, 0)
                    self.assertRegex(node.module, r"^leakyqueue\.[a-z]+$")
                    other = texts[node.module.split(".")[1] + ".py"]
                    for alias in node.names:
                        # The name is defined by that very file.
                        self.assertIn(alias.name, top_names(other))
                        self.assertNotIn(alias.name, imported_names(other))

    def test_no_two_files_import_from_each_other(self):
        imports = {
            name[:-3]: {node.module.split(".")[1] for node in nodes(text, ast.ImportFrom)} for name, text in sources()
        }
        while imports:
            free = [name for name in imports if not imports[name]]
            self.assertNotEqual(free, [], imports)
            imports = {name: imports[name] - set(free) for name in imports if name not in free}


class Names(unittest.TestCase):
    def test_barred_words_and_statements(self):
        for name, text in sources():
            with self.subTest(file=name):
                words = re.findall(r"\w+", text)
                self.assertEqual([word for word in words if word in BARRED_WORDS], [])
                self.assertEqual([part for part in BARRED_PARTS if part in text], [])
                self.assertEqual(nodes(text, BARRED_STATEMENTS), [])
                self.assertEqual([bound for bound in bound_names(text) if bound in BARRED_NAMES], [])

    def test_plain_names(self):
        for name, text in sources():
            with self.subTest(file=name):
                for bound in bound_names(text):
                    self.assertRegex(bound, r"^([A-Za-z][A-Za-z0-9_]*|__[a-z]+__)$")

    def test_each_name_means_one_thing(self):
        for name, text in sources():
            with self.subTest(file=name):
                self.assertEqual(len(top_names(text)), len(set(top_names(text))))
                taken = imported_names(text) + class_names(text) + dir(builtins)
                self.assertEqual([local for local in local_names(text) if local in taken], [])

    def test_builtins(self):
        for name, text in sources():
            with self.subTest(file=name):
                known = top_names(text) + local_names(text) + ALLOWED_BUILTINS
                read = [node.id for node in nodes(text, ast.Name) if isinstance(node.ctx, ast.Load)]
                self.assertEqual([word for word in read if word not in known], [])

    def test_no_name_is_a_method_and_an_attribute(self):
        all_methods = [method.name for name, text in sources() for method in methods(text)]
        all_attributes = [attribute for name, text in sources() for attribute in stored_attributes(text)]
        self.assertEqual(set(all_methods) & set(all_attributes), set())

    def test_special_methods(self):
        for name, text in sources():
            for function in nodes(text, ast.FunctionDef):
                if function.name.startswith("__"):
                    self.assertIn(function.name, ALLOWED_SPECIAL_METHODS)

    def test_special_methods_assign_nothing(self):
        for name, text in sources():
            for method in methods(text):
                if method.name in ["__eq__", "__repr__", "__len__"]:
                    self.assertEqual(assigned_names(ast.unparse(method)) + stored_attributes(ast.unparse(method)), [])

    def test_called_methods(self):
        own = [method.name for name, text in sources() for method in methods(text)]
        for name, text in sources():
            for call in nodes(text, ast.Call):
                if isinstance(call.func, ast.Attribute):
                    self.assertIn(call.func.attr, ALLOWED_METHODS + own)


class Expressions(unittest.TestCase):
    def test_is(self):
        for name, text in sources():
            for node in nodes(text, ast.Compare):
                for operator, value in zip(node.ops, node.comparators):
                    if isinstance(operator, (ast.Is, ast.IsNot)):
                        self.assertIsInstance(value, ast.Constant)
                        self.assertIn(value.value, [None, True, False])

    def test_strings_and_powers(self):
        for name, text in sources():
            for node in nodes(text, ast.Constant):
                if isinstance(node.value, str):
                    self.assertNotIn("%", node.value)
                self.assertNotIsInstance(node.value, (float, complex, bytes))
            for node in nodes(text, ast.BinOp):
                if isinstance(node.op, ast.Pow):
                    self.assertIn(getattr(node.right, "value", None), range(65))

    def test_generator_expressions(self):
        for name, text in sources():
            allowed = []
            for call in nodes(text, ast.Call):
                if called_name(call) in ALLOWED_AROUND_GENERATORS:
                    allowed += [ast.dump(argument) for argument in call.args]
            for node in nodes(text, ast.GeneratorExp):
                self.assertIn(ast.dump(node), allowed)


if __name__ == "__main__":
    unittest.main()
