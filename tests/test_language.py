"""The package keeps to its part of the language, as far as a short look can tell."""

import ast
import builtins
import re
import unittest
from pathlib import Path

PACKAGE = Path(__file__).resolve().parent.parent / "couponhouse"
ALLOWED_BUILTINS = set(
    "len range enumerate zip min max sum abs sorted reversed int str bool list tuple dict set frozenset "
    "isinstance ord repr any all divmod Exception ValueError TypeError KeyError IndexError LookupError "
    "ZeroDivisionError ArithmeticError OverflowError RuntimeError NotImplementedError".split()
)
BARRED_WORDS = re.compile(
    r"\b(type|typing|typing_extensions|enum|Enum|IntEnum|StrEnum|Flag|IntFlag|Generic|Protocol|ABC|ABCMeta"
    r"|namedtuple|NamedTuple|TypedDict|TYPE_CHECKING|abstractmethod)\b|dataclass|overload|contextmanager"
)
BARRED_NODES = (
    ast.With, ast.Match, ast.Delete, ast.Global, ast.Nonlocal, ast.Assert, ast.Yield, ast.YieldFrom, ast.Await,
    ast.AsyncFunctionDef, ast.AsyncFor, ast.AsyncWith, ast.SetComp, ast.DictComp, ast.GeneratorExp, ast.NamedExpr,
    ast.Starred, ast.Div, ast.Import, ast.AnnAssign,
)
METHODS = set(
    "append clear copy count endswith extend find get index insert items join keys pop remove replace reverse "
    "setdefault split startswith strip update values".split()
)


BARRED_NAMES = set(
    "register mro elements open input version_info with_traceback add_note attrgetter breakpoint builtins compile "
    "copyright credits delattr dir eval exec exit gc getattr globals hasattr help id importlib license locals "
    "methodcaller os quit setattr super type vars sys chr format format_map".split()
)


class LanguageTest(unittest.TestCase):
    def files(self):
        return sorted(path for path in PACKAGE.rglob("*") if path.is_file() and "__pycache__" not in path.parts)

    def trees(self):
        return [(path.name, ast.parse(path.read_text())) for path in self.files()]

    def test_files(self):
        self.assertIn(PACKAGE / "house.py", self.files())
        for path in self.files():
            self.assertRegex(path.name, r"^(__init__|[a-z][a-z0-9_]*)\.py$")

    def test_rows(self):
        for path in self.files():
            text = path.read_text()
            self.assertRegex(text, r"\A[ -~\n]*\Z", path.name)
            self.assertIsNone(BARRED_WORDS.search(text), path.name)
            rows = text.splitlines()
            self.assertLessEqual(len(rows), 400, path.name)
            self.assertLessEqual(max(map(len, rows)), 120, path.name)

    def test_functions_are_short(self):
        for name, tree in self.trees():
            for node in ast.walk(tree):
                if isinstance(node, ast.FunctionDef):
                    self.assertLessEqual(node.end_lineno - node.lineno + 1, 40, (name, node.name))
                    self.assertEqual(node.decorator_list, [])
                    self.assertIsNone(node.args.vararg or node.args.kwarg)

    def test_nodes(self):
        for name, tree in self.trees():
            for node in ast.walk(tree):
                self.assertNotIsInstance(node, BARRED_NODES, name)
                if isinstance(node, ast.ImportFrom):
                    self.assertTrue(node.module.startswith("couponhouse."), (name, node.module))
                if isinstance(node, ast.Assign):
                    self.assertEqual(len(node.targets), 1, name)
                if isinstance(node, (ast.For, ast.While)):
                    self.assertEqual(node.orelse, [], name)

    def test_names(self):
        for name, tree in self.trees():
            own = {node.name for node in ast.walk(tree) if isinstance(node, (ast.FunctionDef, ast.ClassDef))}
            for node in ast.walk(tree):
                if isinstance(node, ast.Name) and hasattr(builtins, node.id):
                    self.assertIn(node.id, ALLOWED_BUILTINS, name)
                    self.assertNotIsInstance(node.ctx, ast.Store, (name, node.id))
                if isinstance(node, ast.arg):
                    self.assertFalse(hasattr(builtins, node.arg) or node.arg in own, (name, node.arg))

    def test_methods(self):
        own = set()
        for name, tree in self.trees():
            own.update(node.name for node in ast.walk(tree) if isinstance(node, ast.FunctionDef))
        for name, tree in self.trees():
            for node in ast.walk(tree):
                if isinstance(node, ast.Call) and isinstance(node.func, ast.Attribute):
                    self.assertIn(node.func.attr, METHODS | own, name)

    def test_barred_and_plain_names(self):
        for name, tree in self.trees():
            for node in ast.walk(tree):
                found = [getattr(node, field, None) for field in ("id", "attr", "arg", "name")]
                for one in [one for one in found if isinstance(one, str) and one != "__init__"]:
                    self.assertNotIn(one, BARRED_NAMES, name)
                    self.assertRegex(one, r"^[A-Za-z]", name)

    def test_locals_are_not_called_like_imports_or_classes(self):
        for name, tree in self.trees():
            taken = {alias.name for node in tree.body if isinstance(node, ast.ImportFrom) for alias in node.names}
            taken |= {node.name for node in tree.body if isinstance(node, ast.ClassDef)}
            for node in ast.walk(tree):
                if isinstance(node, ast.Name) and isinstance(node.ctx, ast.Store):
                    self.assertNotIn(node.id, taken, name)
                if isinstance(node, ast.arg):
                    self.assertNotIn(node.arg, taken, name)

    def test_names_are_drawn_from_the_file_that_defines_them_and_used(self):
        tops = {name: top_names(tree) for name, tree in self.trees()}
        for name, tree in self.trees():
            read = {node.id for node in ast.walk(tree) if isinstance(node, ast.Name)}
            for node in tree.body:
                if isinstance(node, ast.ImportFrom):
                    home = node.module.split(".")[1] + ".py"
                    for alias in node.names:
                        self.assertIn(alias.name, tops[home], name)
                        self.assertIn(alias.name, read, name)
            self.assertEqual(len(tops[name]), len(set(tops[name])), name)

    def test_no_two_files_draw_from_one_another(self):
        drawn = {}
        for name, tree in self.trees():
            modules = [node.module for node in tree.body if isinstance(node, ast.ImportFrom)]
            drawn[name] = {module.split(".")[1] + ".py" for module in modules}
        while drawn:
            free = [name for name in drawn if not drawn[name] & set(drawn)]
            self.assertNotEqual(free, [], drawn)
            for name in free:
                drawn.pop(name)

    def test_is_and_texts(self):
        for name, tree in self.trees():
            for node in ast.walk(tree):
                if isinstance(node, ast.Compare) and any(isinstance(op, (ast.Is, ast.IsNot)) for op in node.ops):
                    self.assertTrue(all(isinstance(one, ast.Constant) for one in node.comparators), name)
                if isinstance(node, ast.Constant) and isinstance(node.value, str):
                    self.assertNotIn("%", node.value, name)
                self.assertNotIsInstance(node, ast.Pow, name)

    def test_no_name_is_a_method_and_a_value(self):
        methods, given = set(), set()
        for name, tree in self.trees():
            for node in ast.walk(tree):
                if isinstance(node, ast.ClassDef):
                    methods |= {part.name for part in node.body if isinstance(part, ast.FunctionDef)}
                if isinstance(node, ast.Attribute) and isinstance(node.ctx, ast.Store):
                    given.add(node.attr)
        own = set(dir("") + dir(0) + dir([]) + dir({}) + dir(set()) + dir(b""))
        self.assertEqual(methods & given, set())
        self.assertEqual((methods | given) & own, {"__init__"})


def top_names(tree):
    found = [node.name for node in tree.body if isinstance(node, (ast.FunctionDef, ast.ClassDef))]
    return found + [target.id for node in tree.body if isinstance(node, ast.Assign) for target in node.targets]
