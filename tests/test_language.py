"""Holds the package's files against the rules of the language that a test can see."""

import ast
import builtins
import re
import unittest
from pathlib import Path

PACKAGE = Path(__file__).resolve().parent.parent / "cutline"

NODES = """Module FunctionDef ClassDef arguments arg Import ImportFrom alias
Assign AugAssign If While For Return Break Continue Pass Raise Try ExceptHandler Expr
Constant Name Load Store Attribute Subscript Slice Call keyword List Tuple Dict Set
BinOp Add Sub Mult FloorDiv Mod Pow BitAnd BitOr BitXor LShift RShift
UnaryOp USub UAdd Not Invert BoolOp And Or
Compare Eq NotEq Lt LtE Gt GtE Is IsNot In NotIn IfExp Lambda ListComp comprehension
JoinedStr FormattedValue""".split()

OWN_NAMES = """len range enumerate zip min max sum abs sorted reversed int str bool list tuple
dict set frozenset isinstance ord repr any all divmod Exception ValueError TypeError KeyError
IndexError LookupError ZeroDivisionError ArithmeticError OverflowError RuntimeError
NotImplementedError AttributeError StopIteration""".split()

OWN_METHODS = """append clear copy count endswith extend find get index insert isalnum isalpha
isdigit islower isspace isupper items join keys ljust lower lstrip partition pop remove replace
reverse rfind rjust rpartition rsplit rstrip setdefault split splitlines startswith strip update
upper values zfill bit_length""".split()

UNUSED = """register mro elements open input version_info with_traceback add_note format
format_map""".split()

WORDS = """type typing typing_extensions enum Enum IntEnum StrEnum Flag IntFlag Generic Protocol
ABC ABCMeta namedtuple NamedTuple TypedDict TYPE_CHECKING abstractmethod""".split()


def files():
    return sorted(PACKAGE.glob("*.py"))


def walked():
    for path in files():
        for node in ast.walk(ast.parse(path.read_text("ascii"))):
            yield path.name, node


class Language(unittest.TestCase):
    def test_nothing_but_python_files_lies_in_the_package(self):
        for path in PACKAGE.iterdir():
            if path.name != "__pycache__":
                self.assertRegex(path.name, r"\A[a-z0-9_]+\.py\Z")
        self.assertTrue((PACKAGE / "__init__.py").is_file())

    def test_signs_words_and_lengths(self):
        for path in files():
            text = path.read_text("ascii")
            self.assertRegex(text, r"\A[\n -~]*\Z", path.name)
            self.assertLessEqual(len(text.split("\n")), 401, path.name)
            self.assertLessEqual(max(map(len, text.split("\n"))), 120, path.name)
            self.assertNotRegex(text, r"\b(" + "|".join(WORDS) + r")\b", path.name)
            self.assertIsNone(re.search("dataclass|overload|contextmanager", text), path.name)

    def test_only_the_nodes_that_are_let(self):
        for name, node in walked():
            self.assertIn(node.__class__.__name__, NODES, (name, getattr(node, "lineno", 0)))

    def test_functions_are_short_and_plain(self):
        for name, node in walked():
            if isinstance(node, ast.FunctionDef):
                where = (name, node.name)
                self.assertLessEqual(node.end_lineno - node.lineno + 1, 40, where)
                self.assertEqual(node.decorator_list, [], where)
                self.assertIsNone(node.args.vararg or node.args.kwarg, where)
                self.assertEqual(node.args.kwonlyargs, [], where)

    def test_imports_are_the_packages_own(self):
        for name, node in walked():
            self.assertNotIsInstance(node, ast.Import, name)
            if isinstance(node, ast.ImportFrom):
                self.assertEqual(node.level, 0, name)
                self.assertRegex(node.module, r"\Acutline\.[a-z]+\Z", name)
                self.assertNotIn("*", [drawn.name for drawn in node.names], name)

    def test_names(self):
        for name, node in walked():
            if isinstance(node, ast.Name):
                where = (name, node.lineno, node.id)
                if node.id in dir(builtins):
                    self.assertIn(node.id, OWN_NAMES, where)
                    self.assertIsInstance(node.ctx, ast.Load, where)
                self.assertNotIn(node.id, UNUSED, where)
                self.assertRegex(node.id, r"\A[A-Za-z][A-Za-z0-9_]*\Z", where)
            if isinstance(node, ast.arg):
                self.assertNotIn(node.arg, dir(builtins), (name, node.lineno))

    def test_methods_and_values_of_python_and_of_the_package(self):
        own = [part.name for _, node in walked() if isinstance(node, ast.ClassDef)
               for part in node.body if isinstance(part, ast.FunctionDef)]
        own += [node.attr for _, node in walked() if isinstance(node, ast.Attribute)
                and isinstance(node.ctx, ast.Store)]
        for name, node in walked():
            if isinstance(node, ast.Attribute):
                self.assertIn(node.attr, OWN_METHODS + own, (name, node.lineno))
                self.assertNotIn(node.attr, UNUSED, (name, node.lineno))

    def test_one_target_no_else_behind_a_loop_no_finally(self):
        for name, node in walked():
            if isinstance(node, ast.Assign):
                self.assertEqual(len(node.targets), 1, (name, node.lineno))
            if isinstance(node, (ast.For, ast.While)):
                self.assertEqual(node.orelse, [], (name, node.lineno))
            if isinstance(node, ast.Try):
                self.assertEqual(node.finalbody, [], (name, node.lineno))

    def test_plain_values(self):
        for name, node in walked():
            if isinstance(node, ast.Constant):
                self.assertIn(node.value.__class__, (int, str, bool, type(None)), (name, node.lineno))
                if isinstance(node.value, str):
                    self.assertNotIn("%", node.value, (name, node.lineno))

    def test_is_stands_beside_none_true_and_false_alone(self):
        for name, node in walked():
            if isinstance(node, ast.Compare):
                for sign, side in zip(node.ops, node.comparators):
                    if isinstance(sign, (ast.Is, ast.IsNot)):
                        self.assertIsInstance(side, ast.Constant, (name, node.lineno))
                        self.assertIn(side.value, (None, True, False), (name, node.lineno))

    def test_no_name_is_a_method_and_a_value(self):
        methods = {part.name for _, node in walked() if isinstance(node, ast.ClassDef)
                   for part in node.body if isinstance(part, ast.FunctionDef)}
        values = {node.attr for _, node in walked() if isinstance(node, ast.Attribute)
                  and isinstance(node.ctx, ast.Store)}
        self.assertEqual(methods & values, set())
        pythons = {name for kind in (str, int, list, dict, set, bytes, tuple) for name in dir(kind)}
        self.assertEqual((methods | values) & pythons - {"__init__"}, set())

    def test_no_parameter_or_local_is_called_like_an_import_or_a_class(self):
        for path in files():
            tree = ast.parse(path.read_text("ascii"))
            taken = {drawn.name for node in tree.body if isinstance(node, ast.ImportFrom) for drawn in node.names}
            taken |= {node.name for node in tree.body if isinstance(node, ast.ClassDef)}
            bound = {node.arg for node in ast.walk(tree) if isinstance(node, ast.arg)}
            bound |= {node.id for node in ast.walk(tree) if isinstance(node, ast.Name)
                      and isinstance(node.ctx, ast.Store)}
            self.assertEqual(taken & bound, set(), path.name)

    def test_value_error_is_taken_round_int_alone(self):
        for name, node in walked():
            if isinstance(node, ast.Try):
                self.assertEqual([handler.type.id for handler in node.handlers], ["ValueError"], name)
                self.assertEqual(len(node.body), 1, (name, node.lineno))
                self.assertRegex(ast.unparse(node.body[0]), r"\A[a-z]+ = int\([a-z]+\)\Z", name)

    def test_sets_are_only_sorted(self):
        for name, node in walked():
            self.assertNotIsInstance(node, ast.Set, name)
            calls = [ast.unparse(node)] if isinstance(node, ast.Call) else []
            for call in calls:
                if call.startswith("set("):
                    self.assertIn("sorted(" + call + ")", (PACKAGE / name).read_text("ascii"), name)

    def test_no_two_files_draw_from_one_another(self):
        drawn = {}
        for path in files():
            drawn[path.stem] = {node.module.split(".")[1] for node in ast.parse(path.read_text("ascii")).body
                                if isinstance(node, ast.ImportFrom)}
        while drawn:
            free = [name for name in drawn if not drawn[name] & set(drawn)]
            self.assertNotEqual(free, [], drawn)
            for name in free:
                drawn.pop(name)
