"""The package keeps to the rules of the language that can be read off its files."""

import ast
import builtins
import io
import pathlib
import re
import tokenize
import unittest
import warnings

FOLDER = pathlib.Path(__file__).resolve().parent.parent / "packedforms"
FILES = sorted(FOLDER.glob("*.py"))

BARRED_WORDS = """type typing typing_extensions enum Enum IntEnum StrEnum Flag IntFlag Generic Protocol ABC ABCMeta
    namedtuple NamedTuple TypedDict TYPE_CHECKING abstractmethod""".split()
BARRED_INSIDE = ("dataclass", "overload", "contextmanager")
BARRED_NAMES = """register mro elements open input version_info with_traceback add_note attrgetter breakpoint builtins
    compile copyright credits delattr dir eval exec exit gc getattr globals hasattr help id importlib license locals
    methodcaller os quit setattr super type vars sys""".split()
ALLOWED_BUILTINS = """len range enumerate zip min max sum abs sorted reversed int str bool list tuple dict set
    isinstance ord repr any all divmod iter next Exception ValueError TypeError KeyError IndexError LookupError
    ZeroDivisionError ArithmeticError OverflowError RuntimeError NotImplementedError AttributeError StopIteration
    NotImplemented""".split()
ALLOWED_METHODS = """append clear copy count endswith extend find get index insert isalnum isalpha isdigit islower
    isspace isupper items join keys ljust lower lstrip partition pop remove replace reverse rfind rjust rpartition
    rsplit rstrip setdefault split splitlines startswith strip update upper values zfill bit_length add discard sort
    __init__""".split()
BUILTIN_METHODS = {name for kind in (str, int, list, dict, set, bytes, tuple) for name in dir(kind)}


def tree_of(path):
    return ast.parse(path.read_text())


def bound_names(function):
    """Parameters and all names that a function assigns."""
    told = function.args
    rows = told.posonlyargs + told.args + told.kwonlyargs + [told.vararg, told.kwarg]
    names = {row.arg for row in rows if row is not None}
    for node in ast.walk(function):
        if isinstance(node, ast.Name) and isinstance(node.ctx, ast.Store):
            names.add(node.id)
    return names


def functions_of(tree):
    return [node for node in ast.walk(tree) if isinstance(node, (ast.FunctionDef, ast.Lambda))]


TREES = [(path, tree_of(path)) for path in FILES]


class LanguageTest(unittest.TestCase):
    def test_folder_has_python_files_alone(self):
        others = [path.name for path in FOLDER.iterdir() if path.suffix != ".py" and path.name != "__pycache__"]
        self.assertEqual(others, [])
        for path in FILES:
            self.assertTrue(path.stem.startswith("__") or re.fullmatch("[a-z][a-z0-9_]*", path.stem))
            self.assertFalse(path.stem in dir(builtins) or path.stem.startswith(("test", "law_")))

    def test_sizes_and_characters(self):
        for path, tree in TREES:
            with self.subTest(file=path.name):
                text = path.read_text()
                self.assertLessEqual(len(text.splitlines()), 400)
                self.assertLessEqual(max(len(line) for line in text.splitlines()), 120)
                self.assertTrue(all(sign == "\n" or " " <= sign <= "~" for sign in text))
                for node in ast.walk(tree):
                    if isinstance(node, ast.FunctionDef):
                        self.assertLessEqual(node.end_lineno - node.lineno + 1, 40, node.name)

    def test_no_warnings(self):
        for path in FILES:
            with warnings.catch_warnings():
                warnings.simplefilter("error")
                compile(path.read_text(), path.name, "exec")

    def test_barred_words(self):
        for path, tree in TREES:
            with self.subTest(file=path.name):
                text = path.read_text()
                words = set(re.findall("[A-Za-z0-9_]+", text))
                self.assertEqual(words & set(BARRED_WORDS), set())
                for word in BARRED_INSIDE:
                    self.assertNotIn(word, text)

    def test_strings(self):
        for path, tree in TREES:
            with self.subTest(file=path.name):
                for row in tokenize.generate_tokens(io.StringIO(path.read_text()).readline):
                    if row.type == tokenize.STRING:
                        self.assertNotIn(chr(37), row.string)
                        self.assertIsNone(re.search(r"\\[^nt\\'\"]", row.string))

    def test_imports_name_the_file_that_defines(self):
        defined = {}
        for path in FILES:
            names = set()
            for node in tree_of(path).body:
                if isinstance(node, (ast.FunctionDef, ast.ClassDef)):
                    names.add(node.name)
                if isinstance(node, ast.Assign):
                    names.update(target.id for target in node.targets)
            defined["packedforms." + path.stem] = names
        for path, tree in TREES:
            with self.subTest(file=path.name):
                body = [node for node in tree.body if not isinstance(node, ast.Expr)]
                for node in ast.walk(tree):
                    self.assertNotIsInstance(node, ast.Import)
                    if isinstance(node, ast.ImportFrom):
                        self.assertIn(node, body)
                        self.assertEqual(node.level, 0)
                        for name in node.names:
                            self.assertIsNone(name.asname)
                            self.assertIn(name.name, defined[node.module])

    def test_imports_have_no_ring_and_are_used(self):
        ahead = {}
        for path, tree in TREES:
            with self.subTest(file=path.name):
                rows = [node for node in tree.body if isinstance(node, ast.ImportFrom)]
                ahead[path.stem] = {node.module.split(".")[1] for node in rows}
                read = {node.id for node in ast.walk(tree) if isinstance(node, ast.Name)}
                for node in rows:
                    for name in node.names:
                        self.assertIn(name.name, read)
        while ahead:
            free = [stem for stem in ahead if not ahead[stem] & set(ahead)]
            self.assertTrue(free, ahead)
            for stem in free:
                del ahead[stem]

    def test_names_are_bound_once_and_plain(self):
        for path, tree in TREES:
            with self.subTest(file=path.name):
                names = []
                outer = set(dir(builtins))
                for node in tree.body:
                    if isinstance(node, (ast.FunctionDef, ast.ClassDef)):
                        names.append(node.name)
                    if isinstance(node, ast.Assign):
                        names.extend(target.id for target in node.targets)
                    if isinstance(node, ast.ImportFrom):
                        names.extend(name.name for name in node.names)
                        outer.update(name.name for name in node.names)
                    if isinstance(node, ast.ClassDef):
                        outer.add(node.name)
                self.assertEqual(len(names), len(set(names)))
                for function in functions_of(tree):
                    self.assertEqual(bound_names(function) & outer, set())
                for node in ast.walk(tree):
                    if isinstance(node, ast.Name):
                        self.assertRegex(node.id, "^[A-Za-z][A-Za-z0-9_]*$")
                        self.assertNotIn(node.id, BARRED_NAMES)
                        if node.id in dir(builtins):
                            self.assertIn(node.id, ALLOWED_BUILTINS)

    def test_statements_and_expressions(self):
        barred = (ast.Global, ast.AsyncFunctionDef, ast.Await, ast.Div, ast.Pow, ast.GeneratorExp, ast.Yield,
                  ast.YieldFrom, ast.NamedExpr, ast.Match, ast.With, ast.Nonlocal)
        for path, tree in TREES:
            with self.subTest(file=path.name):
                for node in ast.walk(tree):
                    self.assertNotIsInstance(node, barred)
                    if isinstance(node, ast.Constant):
                        self.assertNotIsInstance(node.value, float)
                    if isinstance(node, ast.Compare) and isinstance(node.ops[0], (ast.Is, ast.IsNot)):
                        self.assertIn(node.comparators[0].value, (None, True, False))
                    if isinstance(node, (ast.FunctionDef, ast.ClassDef)):
                        self.assertEqual(node.decorator_list, [])
                    if isinstance(node, ast.Try):
                        for handler in node.handlers:
                            self.assertNotIn(handler.type.id, dir(builtins))

    def test_methods_of_builtin_values(self):
        for path, tree in TREES:
            with self.subTest(file=path.name):
                for node in ast.walk(tree):
                    if isinstance(node, ast.Attribute) and node.attr in BUILTIN_METHODS:
                        self.assertIn(node.attr, ALLOWED_METHODS)

    def test_errors_are_made_where_they_are_raised(self):
        for path, tree in TREES:
            with self.subTest(file=path.name):
                for node in ast.walk(tree):
                    if isinstance(node, ast.Raise):
                        self.assertIsInstance(node.exc, ast.Call)
                        self.assertIsInstance(node.exc.func, ast.Name)


if __name__ == "__main__":
    unittest.main()
