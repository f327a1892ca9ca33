"""Rules of LANGUAGE.md that a look at the files of the package can decide (not all of them)."""

import ast
import builtins
import pathlib
import re
import unittest

PACKAGE = pathlib.Path(__file__).resolve().parent.parent / "nearslot"

BARRED_WORDS = (
    "type typing typing_extensions enum Enum IntEnum StrEnum Flag IntFlag Generic Protocol ABC ABCMeta "
    "namedtuple NamedTuple TypedDict TYPE_CHECKING abstractmethod"
).split()

BUILTINS = (
    "len range enumerate zip min max sum abs sorted reversed int str bool bytes list tuple dict set frozenset "
    "isinstance ord repr any all divmod iter next super property staticmethod classmethod "
    "Exception ValueError TypeError KeyError IndexError LookupError ZeroDivisionError ArithmeticError "
    "OverflowError RuntimeError NotImplementedError AttributeError StopIteration NotImplemented"
).split()


def files():
    return sorted(path for path in PACKAGE.rglob("*") if "__pycache__" not in path.parts)


def sources():
    return [(path.name, path.read_bytes().decode("utf-8")) for path in files()]


def bound_names(node):
    if isinstance(node, ast.Name):
        return [node.id]
    if isinstance(node, (ast.FunctionDef, ast.ClassDef)):
        return [node.name]
    if isinstance(node, ast.arg):
        return [node.arg]
    if isinstance(node, ast.Attribute):
        return [node.attr]
    return []


class Language(unittest.TestCase):
    def test_files(self):
        self.assertIn("__init__.py", [path.name for path in files()])
        for path in files():
            with self.subTest(file=path.name):
                self.assertRegex(path.name, r"\A(__init__|[a-z][a-z0-9_]*)\.py\Z")

    def test_characters_and_lengths(self):
        for name, text in sources():
            with self.subTest(file=name):
                self.assertRegex(text, r"\A[ -~\n]*\Z")
                self.assertLessEqual(len(text.splitlines()), 400)
                self.assertLessEqual(max(len(line) for line in text.splitlines()), 120)

    def test_words(self):
        for name, text in sources():
            with self.subTest(file=name):
                self.assertEqual([word for word in re.findall(r"\w+", text) if word in BARRED_WORDS], [])
                self.assertNotRegex(text, "dataclass|overload|contextmanager")

    def test_function_lengths(self):
        for name, text in sources():
            for node in ast.walk(ast.parse(text)):
                if isinstance(node, ast.FunctionDef):
                    with self.subTest(file=name, function=node.name):
                        self.assertLessEqual(node.end_lineno - node.lineno + 1, 40)

    def test_imports(self):
        for name, text in sources():
            for node in ast.walk(ast.parse(text)):
                with self.subTest(file=name):
                    self.assertNotIsInstance(node, ast.Import)
                    if isinstance(node, ast.ImportFrom):
                        self.assertEqual((node.level, node.module.split(".")[0]), (0, "nearslot"))

    def test_names(self):
        for name, text in sources():
            for node in ast.walk(ast.parse(text)):
                for word in bound_names(node):
                    with self.subTest(file=name, word=word):
                        self.assertRegex(word, r"\A([a-zA-Z]\w*|__[a-z]+__)\Z")

    def test_builtins(self):
        for name, text in sources():
            for node in ast.walk(ast.parse(text)):
                if isinstance(node, ast.Name) and hasattr(builtins, node.id):
                    with self.subTest(file=name, word=node.id):
                        self.assertIn(node.id, BUILTINS)


if __name__ == "__main__":
    unittest.main()
