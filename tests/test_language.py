"""The package's files keep to the part of Python that the project allows itself.

Not every rule can be seen by a program; these are the ones that can be seen easily.
"""

import ast
import pathlib
import re
import unittest

PACKAGE = pathlib.Path(__file__).resolve().parent.parent / "toldchance"
SOURCES = {path.name: path.read_text() for path in sorted(PACKAGE.glob("*.py"))}

STATEMENTS = (
    ast.Module, ast.FunctionDef, ast.ClassDef, ast.ImportFrom, ast.Assign, ast.AugAssign, ast.If, ast.While,
    ast.For, ast.Return, ast.Break, ast.Continue, ast.Pass, ast.Raise, ast.Try, ast.Expr,
)
EXPRESSIONS = (
    ast.Constant, ast.List, ast.Tuple, ast.Dict, ast.BinOp, ast.UnaryOp, ast.Compare, ast.BoolOp, ast.IfExp,
    ast.Call, ast.Attribute, ast.Subscript, ast.Slice, ast.ListComp, ast.Lambda, ast.JoinedStr, ast.Name,
)
PARTS = (
    ast.alias, ast.arguments, ast.arg, ast.keyword, ast.comprehension, ast.ExceptHandler, ast.FormattedValue,
    ast.operator, ast.unaryop, ast.boolop, ast.cmpop, ast.expr_context,
)
BUILTINS = set(
    "len range enumerate zip min max sum abs sorted reversed int str bool list tuple dict set frozenset isinstance ord "
    "repr any all divmod Exception ValueError TypeError KeyError IndexError LookupError ZeroDivisionError "
    "ArithmeticError OverflowError RuntimeError NotImplementedError StopIteration".split()
)
PYTHONS_METHODS = set(
    "append clear copy count endswith extend find get index insert isalnum isalpha isdigit islower isspace isupper "
    "items join keys ljust lower lstrip partition pop remove replace reverse rfind rjust rpartition rsplit rstrip "
    "setdefault split splitlines startswith strip update upper values zfill bit_length".split()
)
BANNED_WORDS = (
    r"\b(type|typing|typing_extensions|enum|Enum|IntEnum|StrEnum|Flag|IntFlag|Generic|Protocol|ABC|ABCMeta|namedtuple"
    r"|NamedTuple|TypedDict|TYPE_CHECKING|abstractmethod|register|mro|elements|open|input)\b"
    r"|dataclass|overload|contextmanager"
)


def trees():
    return [(name, ast.parse(source)) for name, source in SOURCES.items()]


def nodes(*kinds):
    """Every node of the kinds, with its place for a message."""
    found = []
    for name, tree in trees():
        for node in ast.walk(tree):
            if isinstance(node, kinds):
                found.append((f"{name}:{getattr(node, 'lineno', 0)}", node))
    return found


class Language(unittest.TestCase):
    def test_the_package_holds_python_files_alone(self):
        others = [path.name for path in PACKAGE.iterdir() if path.name not in SOURCES and path.name != "__pycache__"]
        self.assertEqual(others, [])
        self.assertIn("__init__.py", SOURCES)
        for name in SOURCES:
            self.assertRegex(name, r"^(__init__|[a-z][a-z0-9_]*)\.py$")

    def test_sizes_and_signs(self):
        for name, source in SOURCES.items():
            self.assertRegex(source, r"\A[\n -~]*\Z", name)
            lines = source.split("\n")
            self.assertLessEqual(len(lines), 400, name)
            self.assertLessEqual(max(len(line) for line in lines), 120, name)
        for place, node in nodes(ast.FunctionDef):
            self.assertLessEqual(node.end_lineno - node.lineno + 1, 40, place)

    def test_words_that_stand_nowhere(self):
        for name, source in SOURCES.items():
            self.assertIsNone(re.search(BANNED_WORDS, source), name)

    def test_statements_and_expressions(self):
        for place, node in nodes(ast.AST):
            self.assertIsInstance(node, STATEMENTS + EXPRESSIONS + PARTS, place)
        for place, node in nodes(ast.Assign):
            self.assertEqual(len(node.targets), 1, place)
        for name, tree in trees():
            self.assertIsNotNone(ast.get_docstring(tree), name)
            loose = [node for node in ast.walk(tree) if isinstance(node, ast.Expr) and not isinstance(node.value, ast.Call)]
            self.assertEqual(loose, tree.body[:1], name)
        for place, node in nodes(ast.Div, ast.MatMult, ast.Is, ast.IsNot):
            self.fail(place)
        for place, node in nodes(ast.Constant):
            self.assertIsInstance(node.value, (int, str, type(None)), place)
        for place, node in nodes(ast.For, ast.While, ast.Try):
            self.assertTrue(isinstance(node, ast.Try) or not node.orelse, place)
            self.assertFalse(getattr(node, "finalbody", []), place)
        for place, node in nodes(ast.ListComp):
            self.assertEqual(len(node.generators), 1, place)
            self.assertLessEqual(len(node.generators[0].ifs), 1, place)

    def test_functions_and_classes(self):
        for place, node in nodes(ast.FunctionDef):
            plain = node.args
            self.assertFalse(node.decorator_list or plain.vararg or plain.kwarg or plain.kwonlyargs or plain.posonlyargs, place)
        for place, node in nodes(ast.ClassDef):
            self.assertFalse(node.decorator_list or node.keywords or len(node.bases) > 1, place)
            for part in node.body:
                self.assertIsInstance(part, ast.FunctionDef, place)

    def test_imports_come_from_the_defining_file_and_never_in_a_ring(self):
        drawn = {}
        for name, tree in trees():
            drawn[name] = set()
            for node in tree.body:
                if isinstance(node, ast.ImportFrom):
                    self.assertRegex(node.module, r"^toldchance\.[a-z0-9_]+$")
                    other = node.module.split(".")[1] + ".py"
                    drawn[name].add(other)
                    for one in node.names:
                        self.assertIsNone(one.asname)
                        self.assertIn(one.name, self.names_at_top(other))
        while drawn:
            free = [name for name, others in drawn.items() if not others & set(drawn)]
            self.assertTrue(free, drawn)
            for name in free:
                del drawn[name]

    def names_at_top(self, name):
        found = []
        for node in ast.parse(SOURCES[name]).body:
            if isinstance(node, (ast.FunctionDef, ast.ClassDef)):
                found.append(node.name)
            if isinstance(node, ast.Assign):
                found.append(node.targets[0].id)
        self.assertEqual(len(found), len(set(found)), name)
        return found

    def test_names(self):
        python = set(dir(__builtins__) if not isinstance(__builtins__, dict) else __builtins__)
        for name, tree in trees():
            imported = {one.name for node in tree.body if isinstance(node, ast.ImportFrom) for one in node.names}
            top = set(self.names_at_top(name))
            classes = {node.name for node in tree.body if isinstance(node, ast.ClassDef)}
            bound = {node.arg for node in ast.walk(tree) if isinstance(node, ast.arg)}
            bound |= {node.id for node in ast.walk(tree) if isinstance(node, ast.Name) and isinstance(node.ctx, ast.Store)}
            self.assertEqual(bound & (imported | classes | python), set(), name)
            for node in ast.walk(tree):
                if isinstance(node, ast.Name):
                    self.assertIn(node.id, bound | top | imported | BUILTINS, name)
                    self.assertFalse(node.id.startswith("_"), name)

    def test_methods_and_values(self):
        methods = {part.name for _, node in nodes(ast.ClassDef) for part in node.body if isinstance(part, ast.FunctionDef)}
        values = {node.attr for _, node in nodes(ast.Attribute) if isinstance(node.ctx, ast.Store)}
        self.assertEqual(methods & values, set())
        for place, node in nodes(ast.Attribute):
            self.assertIn(node.attr, methods | values | PYTHONS_METHODS, place)
        for kind in (str, int, list, dict, set, bytes):
            self.assertEqual((methods - {"__init__"} - PYTHONS_METHODS) & set(dir(kind)), set())
            self.assertEqual((values - {"count", "index"}) & set(dir(kind)), set())
