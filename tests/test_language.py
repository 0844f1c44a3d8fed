"""The package keeps to the small part of Python that it is written in: the rules that a walk of its code can see."""

import ast
import builtins
import pathlib
import re
import unittest

PACKAGE = pathlib.Path(__file__).resolve().parent.parent / "copperbook"
OWN_NAMES = """len range enumerate zip min max sum abs sorted reversed int str bool list tuple dict set frozenset
    isinstance ord repr any all divmod Exception ValueError TypeError KeyError IndexError LookupError
    ZeroDivisionError ArithmeticError OverflowError RuntimeError NotImplementedError AttributeError
    StopIteration""".split()
METHODS = """append clear copy count endswith extend find get index insert isalnum isalpha isdigit islower isspace
    isupper items join keys ljust lower lstrip partition pop remove replace reverse rfind rjust rpartition rsplit
    rstrip setdefault split splitlines startswith strip update upper values zfill bit_length""".split()
DUNDERS = ["__init__", "__eq__", "__repr__", "__str__", "__len__"]
NODES = """Module Expr Constant ImportFrom alias FunctionDef arguments arg Lambda ClassDef Assign AugAssign If While
    For Return Break Continue Pass Raise Try ExceptHandler Call keyword Name Load Store Attribute Subscript Slice
    List Tuple Dict Set ListComp comprehension BinOp UnaryOp BoolOp Compare IfExp JoinedStr FormattedValue And Or Not
    Add Sub Mult FloorDiv Mod Pow BitAnd BitOr BitXor LShift RShift Invert USub UAdd Eq NotEq Lt LtE Gt GtE Is IsNot In
    NotIn""".split()
TOP = (ast.Expr, ast.ImportFrom, ast.FunctionDef, ast.ClassDef, ast.Assign)
WORDS = """type typing typing_extensions enum Enum IntEnum StrEnum Flag IntFlag Generic Protocol ABC ABCMeta
    namedtuple NamedTuple TypedDict TYPE_CHECKING abstractmethod""".split()
UNUSED = "register mro elements open input version_info with_traceback add_note format format_map".split()


def files():
    return sorted(PACKAGE.glob("*.py"))


def trees():
    return [(path, ast.parse(path.read_text(encoding="utf-8"))) for path in files()]


def nodes(*kinds):
    return [(path, node) for path, tree in trees() for node in ast.walk(tree) if isinstance(node, kinds)]


def bound_names(node):
    if isinstance(node, ast.Name) and isinstance(node.ctx, ast.Store):
        return [node.id]
    if isinstance(node, ast.arg):
        return [node.arg]
    if isinstance(node, (ast.FunctionDef, ast.ClassDef)):
        return [node.name]
    if isinstance(node, ast.Attribute):
        return [node.attr]
    return []


def top_names(tree):
    names = []
    for node in tree.body:
        if isinstance(node, (ast.FunctionDef, ast.ClassDef)):
            names.append(node.name)
        elif isinstance(node, ast.Assign):
            names.append(node.targets[0].id)
    return names


class LanguageTest(unittest.TestCase):
    def test_files(self):
        self.assertTrue((PACKAGE / "__init__.py").is_file())
        for path in PACKAGE.iterdir():
            if path.name != "__pycache__":
                self.assertRegex(path.name, r"^[a-z0-9_]+\.py$")

    def test_signs_words_and_sizes(self):
        for path in files():
            text = path.read_text(encoding="utf-8")
            self.assertRegex(text, r"\A[ -~\n]*\Z", path)
            lines = text.splitlines()
            self.assertLessEqual(len(lines), 400, path)
            self.assertLessEqual(max(len(line) for line in lines), 120, path)
            self.assertEqual([word for word in re.findall(r"\w+", text) if word in WORDS], [], path)
            self.assertNotRegex(text, "dataclass|overload|contextmanager", path)

    def test_kinds_of_code(self):
        for path, node in nodes(ast.AST):
            self.assertIn(type(node).__name__, NODES, (path, getattr(node, "lineno", None)))
        for path, tree in trees():
            for node in tree.body:
                self.assertIsInstance(node, TOP, path)
            names = top_names(tree)
            self.assertEqual(len(names), len(set(names)), path)

    def test_values(self):
        for path, node in nodes(ast.Constant):
            self.assertIn(type(node.value), [int, str, bool, type(None)], (path, node.lineno))
        for path, node in nodes(ast.Assign):
            self.assertEqual(len(node.targets), 1, (path, node.lineno))
        for path, node in nodes(ast.ListComp):
            self.assertEqual(len(node.generators), 1, (path, node.lineno))
            self.assertLessEqual(len(node.generators[0].ifs), 1, (path, node.lineno))
        for path, node in nodes(ast.FormattedValue):
            self.assertIsInstance(node.value, ast.Name, (path, node.lineno))

    def test_functions_and_classes(self):
        for path, node in nodes(ast.FunctionDef):
            where = (path, node.name)
            self.assertLessEqual(node.end_lineno - node.lineno + 1, 40, where)
            self.assertEqual(node.decorator_list, [], where)
            given = node.args
            self.assertEqual([given.vararg, given.kwarg, given.kwonlyargs], [None, None, []], where)
        for path, node in nodes(ast.ClassDef):
            self.assertLessEqual(len(node.bases), 1, (path, node.name))
            self.assertEqual([node.decorator_list, node.keywords], [[], []], (path, node.name))
            for part in node.body:
                self.assertIsInstance(part, (ast.FunctionDef, ast.Expr), (path, node.name))

    def test_imports(self):
        tops = {"copperbook." + path.stem: top_names(tree) for path, tree in trees()}
        for path, node in nodes(ast.ImportFrom):
            self.assertEqual(node.level, 0, path)
            for name in node.names:
                self.assertIn(name.name, tops[node.module], (path, node.module))

    def test_no_two_files_draw_from_one_another(self):
        drawn = {"copperbook." + path.stem: set() for path in files()}
        for path, node in nodes(ast.ImportFrom):
            drawn["copperbook." + path.stem].add(node.module)
        while drawn:
            free = [name for name in drawn if not drawn[name] & set(drawn)]
            self.assertNotEqual(free, [], drawn)
            for name in free:
                del drawn[name]

    def test_comparisons_and_handlers(self):
        for path, node in nodes(ast.Compare):
            for sign, value in zip(node.ops, node.comparators):
                if isinstance(sign, (ast.Is, ast.IsNot)):
                    self.assertIn(getattr(value, "value", value), [None, True, False], (path, node.lineno))
        for path, node in nodes(ast.ExceptHandler):
            self.assertIsInstance(node.type, ast.Name, (path, node.lineno))
            self.assertNotIn(node.type.id, ["Exception", "TypeError"], (path, node.lineno))

    def test_names(self):
        for path, node in nodes(ast.AST):
            for name in bound_names(node):
                where = (path, node.lineno, name)
                if name in DUNDERS:
                    continue
                self.assertRegex(name, r"^[A-Za-z][A-Za-z0-9_]*$", where)
                self.assertNotIn(name, UNUSED, where)
                if not isinstance(node, ast.Attribute):
                    self.assertFalse(hasattr(builtins, name), where)
            if isinstance(node, ast.Name) and hasattr(builtins, node.id):
                self.assertIn(node.id, OWN_NAMES, (path, node.lineno))

    def test_methods_and_values_of_objects(self):
        own = {part.name for path, node in nodes(ast.ClassDef) for part in node.body if isinstance(part, ast.FunctionDef)}
        values = {node.attr for path, node in nodes(ast.Attribute) if isinstance(node.ctx, ast.Store)}
        self.assertEqual(own & values, set())
        for path, node in nodes(ast.Attribute):
            self.assertIn(node.attr, own | values | set(METHODS), (path, node.lineno))


if __name__ == "__main__":
    unittest.main()
