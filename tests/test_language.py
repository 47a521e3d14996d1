"""The package keeps to its part of Python, as far as a walk over its files can tell."""

import ast
import builtins
import pathlib
import re
import unittest

PACKAGE = pathlib.Path(__file__).resolve().parent.parent / "cellpad"

NODES = """Module FunctionDef arguments arg ClassDef ImportFrom alias Assign AugAssign If While For Return Break
Continue Pass Raise Try ExceptHandler Expr Constant Name Attribute Subscript Slice Load Store List Tuple Dict Set
BinOp UnaryOp BoolOp Compare IfExp Call keyword ListComp comprehension Lambda JoinedStr FormattedValue
Add Sub Mult FloorDiv Mod Pow BitAnd BitOr BitXor LShift RShift Invert USub UAdd Not And Or
Eq NotEq Lt LtE Gt GtE Is IsNot In NotIn""".split()

BUILTINS = """len range enumerate zip min max sum abs sorted reversed int str bool list tuple dict set frozenset
isinstance ord repr any all divmod Exception ValueError TypeError KeyError IndexError LookupError
ZeroDivisionError ArithmeticError OverflowError RuntimeError NotImplementedError AttributeError
StopIteration""".split()

METHODS = """append clear copy count endswith extend find get index insert isalnum isalpha isdigit islower isspace
isupper items join keys ljust lower lstrip partition pop remove replace reverse rfind rjust rpartition rsplit rstrip
setdefault split splitlines startswith strip update upper values zfill bit_length""".split()

NAMES_OUT = """register mro elements open input version_info with_traceback add_note attrgetter breakpoint builtins
compile copyright credits delattr dir eval exec exit gc getattr globals hasattr help id importlib license locals
methodcaller os quit setattr super type vars sys""".split()

WORDS_OUT = re.compile(
    r"\b(type|typing|typing_extensions|enum|Enum|IntEnum|StrEnum|Flag|IntFlag|Generic|Protocol|ABC|ABCMeta"
    r"|namedtuple|NamedTuple|TypedDict|TYPE_CHECKING|abstractmethod)\b|dataclass|overload|contextmanager"
)

OWN_VALUES = {name for kind in (str, int, list, dict, set, bytes) for name in dir(kind)}


WALKED_AT_ONCE = "zip enumerate reversed range items keys values".split()
TAKES_A_WALK = "list tuple dict sorted sum any all enumerate zip min max join".split()
KEYWORDS = [
    ("sorted", "key"), ("sorted", "reverse"), ("min", "key"), ("min", "default"), ("max", "key"), ("max", "default"),
    ("sum", "start"), ("enumerate", "start"), ("zip", "strict"),
]


def called(call):
    """The name of the function or method that is called."""
    return getattr(call.func, "id", getattr(call.func, "attr", None))


def files():
    return sorted(PACKAGE.glob("**/*.py"))


def trees():
    return [(path.name, ast.parse(path.read_text())) for path in files()]


def walked(kind):
    return [(name, node) for name, tree in trees() for node in ast.walk(tree) if isinstance(node, kind)]


class Files(unittest.TestCase):
    def test_only_python_files_with_plain_names(self):
        for path in PACKAGE.iterdir():
            if path.name != "__pycache__":
                self.assertRegex(path.name, r"^(__init__|__main__|[a-z][a-z0-9_]*)\.py$")
                self.assertNotIn(path.stem, dir(builtins))

    def test_size_and_signs(self):
        for path in files():
            text = path.read_text()
            self.assertRegex(text, r"\A[ -~\n]*\Z", path.name)
            lines = text.split("\n")
            self.assertLessEqual(len(lines), 400, path.name)
            self.assertLessEqual(max(map(len, lines)), 120, path.name)
            self.assertIsNone(WORDS_OUT.search(text), path.name)

    def test_functions_are_small_and_plain(self):
        for name, node in walked(ast.FunctionDef):
            self.assertLessEqual(node.end_lineno - node.lineno + 1, 40, (name, node.name))
            self.assertEqual(node.decorator_list, [], (name, node.name))
            self.assertIsNone(node.args.vararg or node.args.kwarg, (name, node.name))
            self.assertEqual(node.args.kwonlyargs, [], (name, node.name))


class Statements(unittest.TestCase):
    def test_only_these_forms(self):
        for name, node in walked(ast.AST):
            self.assertIn(node.__class__.__name__, NODES, (name, getattr(node, "lineno", 0)))

    def test_one_target_and_no_else_behind_a_loop(self):
        for name, node in walked(ast.Assign):
            self.assertEqual(len(node.targets), 1, (name, node.lineno))
            self.assertNotIsInstance(node.targets[0], (ast.Tuple, ast.List), (name, node.lineno))
        for name, node in walked((ast.For, ast.While)):
            self.assertEqual(node.orelse, [], (name, node.lineno))

    def test_values(self):
        for name, node in walked(ast.Constant):
            self.assertIn(node.value.__class__.__name__, ("int", "str", "bool", "NoneType"), (name, node.lineno))
        for name, node in walked(ast.ListComp):
            self.assertEqual(len(node.generators), 1, (name, node.lineno))
            self.assertLessEqual(len(node.generators[0].ifs), 1, (name, node.lineno))

    def test_is_stands_beside_none_true_and_false(self):
        for name, node in walked(ast.Compare):
            for sign, right in zip(node.ops, node.comparators):
                if isinstance(sign, (ast.Is, ast.IsNot)):
                    self.assertIn(repr(getattr(right, "value", 0)), ("None", "True", "False"), (name, node.lineno))

    def test_what_is_walked_at_once_is_not_kept(self):
        for name, tree in trees():
            fit = [node.iter for node in ast.walk(tree) if isinstance(node, (ast.For, ast.comprehension))]
            for node in ast.walk(tree):
                if isinstance(node, ast.Call) and called(node) in TAKES_A_WALK:
                    fit += node.args[:1]
            for node in ast.walk(tree):
                if isinstance(node, ast.Call) and called(node) in WALKED_AT_ONCE:
                    self.assertIn(node, fit, (name, node.lineno))

    def test_keywords(self):
        for name, node in walked(ast.Call):
            for keyword in node.keywords:
                self.assertIn((called(node), keyword.arg), KEYWORDS, (name, node.lineno))

    def test_no_percent_sign_in_a_text(self):
        for name, node in walked(ast.Constant):
            self.assertFalse(isinstance(node.value, str) and "%" in node.value, (name, node.lineno))

    def test_a_table_at_a_files_top_holds_functions_of_that_file(self):
        for name, tree in trees():
            above = []
            for node in tree.body:
                if isinstance(node, ast.FunctionDef):
                    above.append(node.name)
                if isinstance(node, ast.Assign):
                    for part in ast.walk(node.value):
                        if isinstance(part, ast.Name):
                            self.assertIn(part.id, above, (name, node.lineno))

    def test_the_top_of_a_file(self):
        for name, tree in trees():
            bound = []
            for node in tree.body[1:]:
                self.assertIsInstance(node, (ast.ImportFrom, ast.FunctionDef, ast.ClassDef, ast.Assign), name)
                if isinstance(node, ast.ImportFrom):
                    bound += [part.name for part in node.names]
                elif isinstance(node, ast.Assign):
                    bound.append(node.targets[0].id)
                else:
                    bound.append(node.name)
            self.assertIsNotNone(ast.get_docstring(tree), name)
            self.assertEqual(len(bound), len(set(bound)), name)

    def test_imports(self):
        defined = {}
        for path in files():
            tree = ast.parse(path.read_text())
            defined["cellpad." + path.stem] = [
                node.targets[0].id if isinstance(node, ast.Assign) else node.name
                for node in tree.body if isinstance(node, (ast.Assign, ast.FunctionDef, ast.ClassDef))
            ]
        drawn = {path.stem: set() for path in files()}
        for name, node in walked(ast.ImportFrom):
            self.assertEqual(node.level, 0, name)
            for part in node.names:
                self.assertIn(part.name, defined[node.module], (name, node.lineno))
                self.assertIsNone(part.asname, (name, node.lineno))
            drawn[name[:-3]].add(node.module.split(".")[1])
        while drawn:
            free = [stem for stem in drawn if not drawn[stem] & set(drawn)]
            self.assertTrue(free, f"files draw from one another: {sorted(drawn)}")
            for stem in free:
                del drawn[stem]


class Names(unittest.TestCase):
    def test_plain_names(self):
        methods = {node.name for name, node in walked(ast.FunctionDef)}
        for name, tree in trees():
            for node in ast.walk(tree):
                for field in ("id", "attr", "arg", "name"):
                    word = getattr(node, field, None)
                    if isinstance(word, str) and word not in ("__init__", "__eq__", "__repr__", "__str__", "__len__"):
                        self.assertRegex(word, r"^[A-Za-z][A-Za-z0-9_]*$", (name, word))
                        self.assertNotIn(word, NAMES_OUT, (name, word))
        self.assertFalse(methods & set(dir(builtins)))

    def test_builtin_names(self):
        for name, node in walked(ast.Name):
            if node.id in dir(builtins):
                self.assertIn(node.id, BUILTINS, (name, node.lineno))
                self.assertIsInstance(node.ctx, ast.Load, (name, node.lineno))
        for name, node in walked(ast.arg):
            self.assertNotIn(node.arg, dir(builtins), name)

    def test_methods_and_values(self):
        methods = set()
        for name, node in walked(ast.ClassDef):
            methods |= {part.name for part in node.body if isinstance(part, ast.FunctionDef)}
        values = {
            node.attr for name, node in walked(ast.Attribute) if isinstance(node.ctx, ast.Store)
        }
        self.assertFalse(methods & values)
        self.assertFalse((methods - {"__init__"}) & OWN_VALUES)
        self.assertFalse(values & OWN_VALUES)
        for name, node in walked(ast.Attribute):
            self.assertIn(node.attr, METHODS + sorted(methods) + sorted(values), (name, node.lineno))

    def test_no_parameter_or_local_is_called_like_a_class_or_an_import(self):
        for name, tree in trees():
            taken = [part.name for node in tree.body if isinstance(node, ast.ImportFrom) for part in node.names]
            taken += [node.name for node in tree.body if isinstance(node, ast.ClassDef)]
            for node in ast.walk(tree):
                if isinstance(node, ast.arg):
                    self.assertNotIn(node.arg, taken, (name, node.lineno))
                if isinstance(node, ast.Name) and isinstance(node.ctx, ast.Store):
                    self.assertNotIn(node.id, taken, (name, node.lineno))

    def test_what_is_imported_is_used(self):
        for name, tree in trees():
            used = [node.id for node in ast.walk(tree) if isinstance(node, ast.Name)]
            for node in tree.body:
                if isinstance(node, ast.ImportFrom):
                    for part in node.names:
                        self.assertIn(part.name, used, name)

    def test_what_stands_at_a_files_top_holds_no_list(self):
        for name, tree in trees():
            for node in tree.body:
                if isinstance(node, ast.Assign):
                    self.assertNotIsInstance(node.value, (ast.List, ast.Dict, ast.Set), (name, node.lineno))


if __name__ == "__main__":
    unittest.main()
