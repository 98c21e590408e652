"""The package keeps to the rules of the language that can be read off its files."""

import ast
import builtins
import io
import pathlib
import re
import tokenize
import unittest
import warnings

FOLDER = pathlib.Path(__file__).resolve().parent.parent / "packedforms"
FILES = sorted(FOLDER.glob("*.py"))

BARRED_WORDS = """type typing typing_extensions enum Enum IntEnum StrEnum Flag IntFlag Generic Protocol ABC ABCMeta
    namedtuple NamedTuple TypedDict TYPE_CHECKING abstractmethod""".split()
BARRED_INSIDE = ("dataclass", "overload", "contextmanager")
BARRED_NAMES = """register mro elements open input version_info with_traceback add_note attrgetter breakpoint builtins
    compile copyright credits delattr dir eval exec exit gc getattr globals hasattr help id importlib license locals
    methodcaller os quit setattr super type vars sys""".split()
ALLOWED_BUILTINS = """len range enumerate zip min max sum abs sorted reversed int str bool list tuple dict set
    isinstance ord repr any all divmod iter next Exception ValueError TypeError KeyError IndexError LookupError
    ZeroDivisionError ArithmeticError OverflowError RuntimeError NotImplementedError AttributeError StopIteration
    NotImplemented""".split()
ALLOWED_METHODS = """append clear copy count endswith extend find get index insert isalnum isalpha isdigit islower
    isspace isupper items join keys ljust lower lstrip partition pop remove replace reverse rfind rjust rpartition
    rsplit rstrip setdefault split splitlines startswith strip update upper values zfill bit_length add discard sort
    __init__""".split()
BARRED_ATTRIBUTES = """items keys values pop update append clear extend insert remove reverse setdefault sort args
    encode decode hex fromhex format format_map mro as_integer_ratio bit_count conjugate from_bytes is_integer
    to_bytes""".split()
CHANGING = ("append", "clear", "extend", "insert", "pop", "remove", "reverse", "setdefault", "update", "add", "discard",
            "sort")
DUNDERS = ("__init__", "__eq__", "__len__", "__str__", "__repr__")
KEYWORDS = {"sorted": ("key", "reverse"), "min": ("key", "default"), "max": ("key", "default"), "sum": ("start",),
            "enumerate": ("start",), "zip": ("strict",)}
BUILTIN_METHODS = {name for kind in (str, int, list, dict, set, bytes, tuple) for name in dir(kind)}


def tree_of(path):
    return ast.parse(path.read_text())


def bound_names(function):
    """Parameters and all names that a function assigns."""
    told = function.args
    rows = told.posonlyargs + told.args + told.kwonlyargs + [told.vararg, told.kwarg]
    names = {row.arg for row in rows if row is not None}
    for node in ast.walk(function):
        if isinstance(node, ast.Name) and isinstance(node.ctx, ast.Store):
            names.add(node.id)
    return names


def functions_of(tree):
    return [node for node in ast.walk(tree) if isinstance(node, (ast.FunctionDef, ast.Lambda))]


TREES = [(path, tree_of(path)) for path in FILES]


class LanguageTest(unittest.TestCase):
    def test_folder_has_python_files_alone(self):
        others = [path.name for path in FOLDER.iterdir() if path.suffix != ".py" and path.name != "__pycache__"]
        self.assertEqual(others, [])
        for path in FILES:
            self.assertTrue(path.stem.startswith("__") or re.fullmatch("[a-z][a-z0-9_]*", path.stem))
            self.assertFalse(path.stem in dir(builtins) or path.stem.startswith(("test", "law_")))

    def test_sizes_and_characters(self):
        for path, tree in TREES:
            with self.subTest(file=path.name):
                text = path.read_text()
                self.assertLessEqual(len(text.splitlines()), 400)
                self.assertLessEqual(max(len(line) for line in text.splitlines()), 120)
                self.assertTrue(all(sign == "\n" or " " <= sign <= "~" for sign in text))
                for node in ast.walk(tree):
                    if isinstance(node, ast.FunctionDef):
                        self.assertLessEqual(node.end_lineno - node.lineno + 1, 40, node.name)

    def test_no_warnings(self):
        for path in FILES:
            with warnings.catch_warnings():
                warnings.simplefilter("error")
                compile(path.read_text(), path.name, "exec")

    def test_barred_words(self):
        for path, tree in TREES:
            with self.subTest(file=path.name):
                text = path.read_text()
                words = set(re.findall("[A-Za-z0-9_]+", text))
                self.assertEqual(words & set(BARRED_WORDS), set())
                for word in BARRED_INSIDE:
                    self.assertNotIn(word, text)

    def test_strings(self):
        for path, tree in TREES:
            with self.subTest(file=path.name):
                for row in tokenize.generate_tokens(io.StringIO(path.read_text()).readline):
                    if row.type == tokenize.STRING:
                        self.assertNotIn(chr(37), row.string)
                        self.assertIsNone(re.search(r"\\[^nt\\'\"]", row.string))

    def test_imports_name_the_file_that_defines(self):
        defined = {}
        for path in FILES:
            names = set()
            for node in tree_of(path).body:
                if isinstance(node, (ast.FunctionDef, ast.ClassDef)):
                    names.add(node.name)
                if isinstance(node, ast.Assign):
                    names.update(target.id for target in node.targets)
            defined["packedforms." + path.stem] = names
        for path, tree in TREES:
            with self.subTest(file=path.name):
                body = [node for node in tree.body if not isinstance(node, ast.Expr)]
                for node in ast.walk(tree):
                    self.assertNotIsInstance(node, ast.Import)
                    if isinstance(node, ast.ImportFrom):
                        self.assertIn(node, body)
                        self.assertEqual(node.level, 0)
                        for name in node.names:
                            self.assertIsNone(name.asname)
                            self.assertIn(name.name, defined[node.module])

    def test_imports_have_no_ring_and_are_used(self):
        ahead = {}
        for path, tree in TREES:
            with self.subTest(file=path.name):
                rows = [node for node in tree.body if isinstance(node, ast.ImportFrom)]
                ahead[path.stem] = {node.module.split(".")[1] for node in rows}
                read = {node.id for node in ast.walk(tree) if isinstance(node, ast.Name)}
                for node in rows:
                    for name in node.names:
                        self.assertIn(name.name, read)
        while ahead:
            free = [stem for stem in ahead if not ahead[stem] & set(ahead)]
            self.assertTrue(free, ahead)
            for stem in free:
                del ahead[stem]

    def test_names_are_bound_once_and_plain(self):
        for path, tree in TREES:
            with self.subTest(file=path.name):
                names = []
                outer = set(dir(builtins))
                for node in tree.body:
                    if isinstance(node, (ast.FunctionDef, ast.ClassDef)):
                        names.append(node.name)
                    if isinstance(node, ast.Assign):
                        names.extend(target.id for target in node.targets)
                    if isinstance(node, ast.ImportFrom):
                        names.extend(name.name for name in node.names)
                        outer.update(name.name for name in node.names)
                    if isinstance(node, ast.ClassDef):
                        outer.add(node.name)
                self.assertEqual(len(names), len(set(names)))
                for function in functions_of(tree):
                    self.assertEqual(bound_names(function) & outer, set())
                for node in ast.walk(tree):
                    if isinstance(node, ast.Name):
                        self.assertRegex(node.id, "^[A-Za-z][A-Za-z0-9_]*$")
                        self.assertNotIn(node.id, BARRED_NAMES)
                        if node.id in dir(builtins):
                            self.assertIn(node.id, ALLOWED_BUILTINS)

    def test_statements_and_expressions(self):
        barred = (ast.Global, ast.AsyncFunctionDef, ast.Await, ast.Div, ast.Pow, ast.GeneratorExp, ast.Yield,
                  ast.YieldFrom, ast.NamedExpr, ast.Match, ast.With, ast.Nonlocal)
        for path, tree in TREES:
            with self.subTest(file=path.name):
                for node in ast.walk(tree):
                    self.assertNotIsInstance(node, barred)
                    if isinstance(node, ast.Constant):
                        self.assertNotIsInstance(node.value, float)
                    if isinstance(node, ast.Compare) and isinstance(node.ops[0], (ast.Is, ast.IsNot)):
                        self.assertIn(node.comparators[0].value, (None, True, False))
                    if isinstance(node, (ast.FunctionDef, ast.ClassDef)):
                        self.assertEqual(node.decorator_list, [])
                    if isinstance(node, ast.Try):
                        for handler in node.handlers:
                            several = isinstance(handler.type, ast.Tuple)
                            for name in handler.type.elts if several else [handler.type]:
                                self.assertNotIn(name.id, dir(builtins))

    def test_methods_of_builtin_values(self):
        for path, tree in TREES:
            with self.subTest(file=path.name):
                for node in ast.walk(tree):
                    if isinstance(node, ast.Attribute) and node.attr in BUILTIN_METHODS:
                        self.assertIn(node.attr, ALLOWED_METHODS)

    def test_errors_are_made_where_they_are_raised(self):
        for path, tree in TREES:
            with self.subTest(file=path.name):
                for node in ast.walk(tree):
                    if isinstance(node, ast.Raise):
                        self.assertIsInstance(node.exc, ast.Call)
                        self.assertIsInstance(node.exc.func, ast.Name)

    def test_module_level(self):
        for path, tree in TREES:
            with self.subTest(file=path.name):
                for number, node in enumerate(tree.body):
                    if number == 0:
                        self.assertIsInstance(node, ast.Expr)
                        self.assertIsInstance(node.value.value, str)
                        continue
                    self.assertIsInstance(node, (ast.ImportFrom, ast.FunctionDef, ast.ClassDef, ast.Assign))
                    if isinstance(node, ast.Assign):
                        for inner in ast.walk(node.value):
                            self.assertNotIsInstance(inner, (ast.Call, ast.ListComp, ast.Lambda))

    def test_lists_and_dicts_at_module_level_are_only_read(self):
        tables = {target.id for path, tree in TREES for node in tree.body if isinstance(node, ast.Assign)
                  for target in node.targets if isinstance(node.value, (ast.Dict, ast.List))}
        for path, tree in TREES:
            with self.subTest(file=path.name):
                allowed = set()
                for node in ast.walk(tree):
                    if isinstance(node, ast.Subscript) and isinstance(node.ctx, ast.Load):
                        allowed.add(node.value)
                    if isinstance(node, ast.Compare):
                        allowed.update(node.comparators)
                    if isinstance(node, (ast.For, ast.comprehension)):
                        allowed.add(node.iter)
                    if isinstance(node, ast.Call) and isinstance(node.func, ast.Name):
                        if node.func.id in ("len", "list", "dict", "sorted"):
                            allowed.update(node.args)
                for node in ast.walk(tree):
                    if isinstance(node, ast.Name) and isinstance(node.ctx, ast.Load) and node.id in tables:
                        self.assertIn(node, allowed, node.id)

    def test_methods_and_attributes(self):
        methods, attributes = set(), set()
        for path, tree in TREES:
            for node in ast.walk(tree):
                if isinstance(node, ast.ClassDef):
                    methods.update(each.name for each in node.body if isinstance(each, ast.FunctionDef))
                if isinstance(node, ast.Attribute) and isinstance(node.ctx, ast.Store):
                    self.assertIsInstance(node.value, ast.Name)
                    attributes.add(node.attr)
        self.assertEqual(methods & attributes, set())
        self.assertEqual((methods | attributes) & set(BARRED_ATTRIBUTES), set())
        self.assertEqual({name for name in methods if name.startswith("_")} - set(DUNDERS), set())
        own = methods | attributes | BUILTIN_METHODS
        for path, tree in TREES:
            for node in ast.walk(tree):
                if isinstance(node, ast.Attribute):
                    self.assertIn(node.attr, own)

    def test_double_underscore_methods_change_nothing(self):
        for path, tree in TREES:
            for node in ast.walk(tree):
                if isinstance(node, ast.FunctionDef) and node.name in DUNDERS[1:]:
                    self.assertIsInstance(node.body[-1], ast.Return)
                    for inner in ast.walk(node):
                        self.assertNotIsInstance(inner, (ast.Assign, ast.AugAssign, ast.Delete))
                        if isinstance(inner, ast.Attribute):
                            self.assertNotIn(inner.attr, CHANGING)
                        if isinstance(inner, ast.Return) and node.name == "__len__":
                            self.assertEqual(inner.value.func.id, "len")

    def test_finally(self):
        for path, tree in TREES:
            for node in ast.walk(tree):
                if isinstance(node, ast.Try):
                    for row in node.finalbody:
                        self.assertIsInstance(row, ast.AugAssign)
                        self.assertIsInstance(row.target, ast.Attribute)
                        self.assertIsInstance(row.value, ast.Constant)

    def test_keywords_of_builtins(self):
        for path, tree in TREES:
            for node in ast.walk(tree):
                if isinstance(node, ast.Call) and isinstance(node.func, ast.Name) and node.func.id in dir(builtins):
                    for keyword in node.keywords:
                        self.assertIn(keyword.arg, KEYWORDS[node.func.id])

    def test_what_is_gone_over_is_not_changed(self):
        for path, tree in TREES:
            for node in ast.walk(tree):
                if not isinstance(node, ast.For):
                    continue
                over = ast.unparse(node.iter)
                for inner in [each for row in node.body for each in ast.walk(row)]:
                    if isinstance(inner, ast.Attribute) and inner.attr in CHANGING:
                        self.assertNotEqual(ast.unparse(inner.value), over)
                    if isinstance(inner, ast.Subscript) and not isinstance(inner.ctx, ast.Load):
                        self.assertNotEqual(ast.unparse(inner.value), over)

    def test_sets_are_told_on_the_spot(self):
        for path, tree in TREES:
            right = set()
            for node in ast.walk(tree):
                if isinstance(node, ast.Call) and isinstance(node.func, ast.Name) and node.func.id in ("len", "sorted"):
                    right.update(node.args)
            for node in ast.walk(tree):
                is_call = isinstance(node, ast.Call) and isinstance(node.func, ast.Name) and node.func.id == "set"
                if is_call or isinstance(node, (ast.Set, ast.SetComp)):
                    self.assertIn(node, right)


if __name__ == "__main__":
    unittest.main()
