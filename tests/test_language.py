"""Rules of LANGUAGE.md that a look at the files of the package can decide (not all of them)."""

import ast
import builtins
import pathlib
import re
import unittest

PACKAGE = pathlib.Path(__file__).resolve().parent.parent / "nearslot"

BARRED_WORDS = (
    "type typing typing_extensions enum Enum IntEnum StrEnum Flag IntFlag Generic Protocol ABC ABCMeta "
    "namedtuple NamedTuple TypedDict TYPE_CHECKING abstractmethod"
).split()

BUILTINS = (
    "len range enumerate zip min max sum abs sorted reversed int str bool bytes list tuple dict set frozenset "
    "isinstance ord repr any all divmod iter next super property staticmethod classmethod "
    "Exception ValueError TypeError KeyError IndexError LookupError ZeroDivisionError ArithmeticError "
    "OverflowError RuntimeError NotImplementedError AttributeError StopIteration NotImplemented"
).split()

METHODS = (
    "append clear copy count endswith extend find get index insert isalnum isalpha isdigit islower isspace isupper "
    "items join keys ljust lower lstrip partition pop remove replace reverse rfind rjust rpartition rsplit rstrip "
    "setdefault split splitlines startswith strip update upper values zfill bit_length"
).split()

STATEMENTS = (
    ast.FunctionDef, ast.ClassDef, ast.ImportFrom, ast.Assign, ast.AugAssign, ast.If, ast.While, ast.For, ast.Return,
    ast.Break, ast.Continue, ast.Pass, ast.Raise, ast.Assert, ast.Delete, ast.Try, ast.Expr,
)

DOUBLE_UNDERSCORE = ("__init__", "__eq__", "__repr__", "__len__")


def files():
    return sorted(path for path in PACKAGE.rglob("*") if "__pycache__" not in path.parts)


def sources():
    return [(path.name, path.read_bytes().decode("utf-8")) for path in files()]


def bound_names(node):
    if isinstance(node, ast.Name):
        return [node.id]
    if isinstance(node, (ast.FunctionDef, ast.ClassDef)):
        return [node.name]
    if isinstance(node, ast.arg):
        return [node.arg]
    if isinstance(node, ast.Attribute):
        return [node.attr]
    return []


def bound_at_top(node):
    """The names that a statement at module level binds."""
    if isinstance(node, ast.ImportFrom):
        return [alias.name for alias in node.names]
    if isinstance(node, ast.Assign):
        return [target.id for target in node.targets]
    return [node.name] if isinstance(node, (ast.FunctionDef, ast.ClassDef)) else []


class Language(unittest.TestCase):
    def test_files(self):
        self.assertIn("__init__.py", [path.name for path in files()])
        for path in files():
            with self.subTest(file=path.name):
                self.assertRegex(path.name, r"\A(__init__|[a-z][a-z0-9_]*)\.py\Z")

    def test_characters_and_lengths(self):
        for name, text in sources():
            with self.subTest(file=name):
                self.assertRegex(text, r"\A[ -~\n]*\Z")
                self.assertLessEqual(len(text.splitlines()), 400)
                self.assertLessEqual(max(len(line) for line in text.splitlines()), 120)

    def test_words(self):
        for name, text in sources():
            with self.subTest(file=name):
                self.assertEqual([word for word in re.findall(r"\w+", text) if word in BARRED_WORDS], [])
                self.assertNotRegex(text, "dataclass|overload|contextmanager")

    def test_function_lengths(self):
        for name, text in sources():
            for node in ast.walk(ast.parse(text)):
                if isinstance(node, ast.FunctionDef):
                    with self.subTest(file=name, function=node.name):
                        self.assertLessEqual(node.end_lineno - node.lineno + 1, 40)

    def test_imports(self):
        for name, text in sources():
            for node in ast.walk(ast.parse(text)):
                with self.subTest(file=name):
                    self.assertNotIsInstance(node, ast.Import)
                    if isinstance(node, ast.ImportFrom):
                        self.assertEqual((node.level, node.module.split(".")[0]), (0, "nearslot"))

    def test_names(self):
        for name, text in sources():
            for node in ast.walk(ast.parse(text)):
                for word in bound_names(node):
                    with self.subTest(file=name, word=word):
                        self.assertRegex(word, r"\A([a-zA-Z]\w*|__[a-z]+__)\Z")

    def test_builtins(self):
        for name, text in sources():
            for node in ast.walk(ast.parse(text)):
                if isinstance(node, ast.Name) and hasattr(builtins, node.id):
                    with self.subTest(file=name, word=node.id):
                        self.assertIn(node.id, BUILTINS)

    def test_names_are_given_one_meaning(self):
        for name, text in sources():
            tree = ast.parse(text)
            top = [bound for node in tree.body for bound in bound_at_top(node)]
            with self.subTest(file=name):
                self.assertEqual(len(top), len(set(top)))
            barred = {alias.name for node in tree.body if isinstance(node, ast.ImportFrom) for alias in node.names}
            barred |= {node.name for node in tree.body if isinstance(node, ast.ClassDef)} | set(dir(builtins))
            for node in ast.walk(tree):
                words = [node.arg] if isinstance(node, ast.arg) else []
                if isinstance(node, ast.Name) and isinstance(node.ctx, ast.Store):
                    words.append(node.id)
                for word in words:
                    with self.subTest(file=name, word=word):
                        self.assertNotIn(word, barred)

    def test_imports_name_the_defining_file_and_make_no_circle(self):
        trees = {name.removesuffix(".py"): ast.parse(text) for name, text in sources()}
        above = {name: set() for name in trees}
        for name, tree in trees.items():
            for node in tree.body:
                if isinstance(node, ast.ImportFrom):
                    module = node.module.removeprefix("nearslot.")
                    above[name].add(module)
                    own = [bound for one in trees[module].body if not isinstance(one, ast.ImportFrom)
                           for bound in bound_at_top(one)]
                    for alias in node.names:
                        with self.subTest(file=name, word=alias.name):
                            self.assertIsNone(alias.asname)
                            self.assertIn(alias.name, own)
        while above:
            free = [name for name in above if not above[name] & set(above)]
            self.assertTrue(free, above)
            for name in free:
                del above[name]

    def test_every_import_is_used(self):
        for name, text in sources():
            tree = ast.parse(text)
            words = [node.id for node in ast.walk(tree) if isinstance(node, ast.Name)]
            for node in tree.body:
                for alias in node.names if isinstance(node, ast.ImportFrom) else []:
                    with self.subTest(file=name, word=alias.name):
                        self.assertIn(alias.name, words)

    def test_statements_and_expressions(self):
        # Some of these are allowed in places; the package does without them.
        barred = (ast.GeneratorExp, ast.Yield, ast.YieldFrom, ast.NamedExpr, ast.Div, ast.Pow, ast.Mod)
        for name, text in sources():
            for node in ast.walk(ast.parse(text)):
                with self.subTest(file=name, line=getattr(node, "lineno", None)):
                    if isinstance(node, ast.stmt):
                        self.assertIsInstance(node, STATEMENTS)
                    self.assertNotIsInstance(node, barred)
                    if isinstance(node, ast.Compare) and isinstance(node.ops[0], (ast.Is, ast.IsNot)):
                        self.assertIn(ast.unparse(node.comparators[0]), ("None", "True", "False"))
                    if isinstance(node, ast.Constant):
                        self.assertIsInstance(node.value, (int, str, type(None)))
                        self.assertNotIn("%", str(node.value))

    def test_methods_and_attributes(self):
        trees = [ast.parse(text) for name, text in sources()]
        nodes = [node for tree in trees for node in ast.walk(tree)]
        classes = [node for node in nodes if isinstance(node, ast.ClassDef)]
        methods = {one.name for node in classes for one in node.body if isinstance(one, ast.FunctionDef)}
        read = {node.attr for node in nodes if isinstance(node, ast.Attribute)}
        assigned = {node.attr for node in nodes if isinstance(node, ast.Attribute) and isinstance(node.ctx, ast.Store)}
        self.assertEqual(methods & assigned, set())
        self.assertEqual(read - methods - assigned - set(METHODS), set())
        self.assertEqual({word for word in methods if word.startswith("_")} - set(DOUBLE_UNDERSCORE), set())
        known = {word for value in ("", 0, [], {}, set(), b"", ()) for word in dir(value)}
        self.assertEqual(assigned & known, set())
        self.assertEqual((methods & known) - set(METHODS) - set(DOUBLE_UNDERSCORE), set())

    def test_handlers(self):
        own = [node.name for name, text in sources() for node in ast.parse(text).body if isinstance(node, ast.ClassDef)]
        for name, text in sources():
            for node in ast.walk(ast.parse(text)):
                if isinstance(node, ast.ExceptHandler):
                    with self.subTest(file=name, line=node.lineno):
                        self.assertIn(ast.unparse(node.type), own)
                if isinstance(node, ast.Raise):
                    with self.subTest(file=name, line=node.lineno):
                        self.assertIn(ast.unparse(node.exc.func), own)
                if isinstance(node, ast.Try):
                    for row in node.finalbody:
                        with self.subTest(file=name, line=row.lineno):
                            self.assertRegex(ast.unparse(row), r"\Aself\.\w+\.append\(\('\w+', '\w+'\)\)\Z")


if __name__ == "__main__":
    unittest.main()
