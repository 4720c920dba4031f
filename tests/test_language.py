"""The package's files keep to the part of Python that the project allows itself.

Not every rule can be seen by a program; these are the ones that can be seen easily.
"""

import ast
import pathlib
import re
import unittest

PACKAGE = pathlib.Path(__file__).resolve().parent.parent / "toldchance"
SOURCES = {path.name: path.read_text() for path in sorted(PACKAGE.glob("*.py"))}

STATEMENTS = (
    ast.Module, ast.FunctionDef, ast.ClassDef, ast.ImportFrom, ast.Assign, ast.AugAssign, ast.If, ast.While,
    ast.For, ast.Return, ast.Break, ast.Continue, ast.Pass, ast.Raise, ast.Try, ast.Expr,
)
EXPRESSIONS = (
    ast.Constant, ast.List, ast.Tuple, ast.Dict, ast.BinOp, ast.UnaryOp, ast.Compare, ast.BoolOp, ast.IfExp,
    ast.Call, ast.Attribute, ast.Subscript, ast.Slice, ast.ListComp, ast.Lambda, ast.JoinedStr, ast.Name,
)
PARTS = (
    ast.alias, ast.arguments, ast.arg, ast.keyword, ast.comprehension, ast.ExceptHandler, ast.FormattedValue,
    ast.operator, ast.unaryop, ast.boolop, ast.cmpop, ast.expr_context,
)
BUILTINS = set(
    "len range enumerate zip min max sum abs sorted reversed int str bool list tuple dict set frozenset isinstance ord "
    "repr any all divmod Exception ValueError TypeError KeyError IndexError LookupError ZeroDivisionError "
    "ArithmeticError OverflowError RuntimeError NotImplementedError StopIteration".split()
)
PYTHONS_METHODS = set(
    "append clear copy count endswith extend find get index insert isalnum isalpha isdigit islower isspace isupper "
    "items join keys ljust lower lstrip partition pop remove replace reverse rfind rjust rpartition rsplit rstrip "
    "setdefault split splitlines startswith strip update upper values zfill bit_length".split()
)
WALKERS = ("list", "tuple", "dict", "sorted", "sum", "any", "all", "enumerate", "zip", "min", "max")
CHANGES = ("append", "clear", "extend", "insert", "pop", "remove", "reverse", "setdefault", "update")
BANNED_WORDS = (
    r"\b(type|typing|typing_extensions|enum|Enum|IntEnum|StrEnum|Flag|IntFlag|Generic|Protocol|ABC|ABCMeta|namedtuple"
    r"|NamedTuple|TypedDict|TYPE_CHECKING|abstractmethod|register|mro|elements|open|input)\b"
    r"|dataclass|overload|contextmanager"
)


def trees():
    return [(name, ast.parse(source)) for name, source in SOURCES.items()]


def nodes(*kinds):
    """Every node of the kinds, with its place for a message."""
    found = []
    for name, tree in trees():
        for node in ast.walk(tree):
            if isinstance(node, kinds):
                found.append((f"{name}:{getattr(node, 'lineno', 0)}", node))
    return found


class Language(unittest.TestCase):
    def test_the_package_holds_python_files_alone(self):
        others = [path.name for path in PACKAGE.iterdir() if path.name not in SOURCES and path.name != "__pycache__"]
        self.assertEqual(others, [])
        self.assertIn("__init__.py", SOURCES)
        for name in SOURCES:
            self.assertRegex(name, r"^(__init__|[a-z][a-z0-9_]*)\.py$")

    def test_sizes_and_signs(self):
        for name, source in SOURCES.items():
            self.assertRegex(source, r"\A[\n -~]*\Z", name)
            lines = source.split("\n")
            self.assertLessEqual(len(lines), 400, name)
            self.assertLessEqual(max(len(line) for line in lines), 120, name)
        for place, node in nodes(ast.FunctionDef):
            self.assertLessEqual(node.end_lineno - node.lineno + 1, 40, place)

    def test_words_that_stand_nowhere(self):
        for name, source in SOURCES.items():
            self.assertIsNone(re.search(BANNED_WORDS, source), name)

    def test_statements_and_expressions(self):
        for place, node in nodes(ast.AST):
            self.assertIsInstance(node, STATEMENTS + EXPRESSIONS + PARTS, place)
        for place, node in nodes(ast.Assign):
            self.assertEqual(len(node.targets), 1, place)
        for name, tree in trees():
            self.assertIsNotNone(ast.get_docstring(tree), name)
            loose = [node for node in ast.walk(tree) if isinstance(node, ast.Expr) and not isinstance(node.value, ast.Call)]
            self.assertEqual(loose, tree.body[:1], name)
        for place, node in nodes(ast.BinOp, ast.AugAssign):
            self.assertNotIsInstance(node.op, (ast.Div, ast.MatMult), place)
        for place, node in nodes(ast.Constant):
            self.assertIsInstance(node.value, (int, str, type(None)), place)
        for place, node in nodes(ast.For, ast.While, ast.Try):
            self.assertTrue(isinstance(node, ast.Try) or not node.orelse, place)
            self.assertFalse(getattr(node, "finalbody", []), place)
        for place, node in nodes(ast.ListComp):
            self.assertEqual(len(node.generators), 1, place)
            self.assertLessEqual(len(node.generators[0].ifs), 1, place)

    def test_is_stands_beside_none_true_and_false_alone(self):
        for place, node in nodes(ast.Compare):
            for sign, other in zip(node.ops, node.comparators):
                if isinstance(sign, (ast.Is, ast.IsNot)):
                    self.assertTrue(isinstance(other, ast.Constant) and other.value in (None, True, False), place)

    def test_exponents_are_written(self):
        for place, node in nodes(ast.BinOp, ast.AugAssign):
            if isinstance(node.op, ast.Pow):
                self.assertIsInstance(node.right, ast.Constant, place)
                self.assertLessEqual(node.right.value, 64, place)

    def test_what_is_walked_is_walked_on_the_spot(self):
        at_once = set()
        for _, node in nodes(ast.For, ast.comprehension):
            at_once.add(self.text_of(node.iter))
        for _, node in nodes(ast.Call):
            if isinstance(node.func, ast.Name) and node.func.id in WALKERS and node.args:
                at_once.add(self.text_of(node.args[0]))
        for place, node in nodes(ast.Call):
            if isinstance(node.func, ast.Name) and node.func.id in ("zip", "enumerate", "reversed", "range"):
                self.assertIn(self.text_of(node), at_once, place)

    def text_of(self, node):
        return ast.dump(node, include_attributes=True)

    def test_what_a_loop_walks_is_not_changed_in_it(self):
        for place, loop in nodes(ast.For):
            walked = {node.id for node in ast.walk(loop.iter) if isinstance(node, ast.Name)}
            for node in ast.walk(loop):
                if isinstance(node, ast.Subscript) and isinstance(node.ctx, ast.Store) and isinstance(node.value, ast.Name):
                    self.assertNotIn(node.value.id, walked, place)
                if isinstance(node, ast.Call) and isinstance(node.func, ast.Attribute) and isinstance(node.func.value, ast.Name):
                    if node.func.attr in CHANGES:
                        self.assertNotIn(node.func.value.id, walked, place)

    def test_rows_of_a_files_top_are_only_read(self):
        for name, tree in trees():
            kept = {node.targets[0].id for node in tree.body if isinstance(node, ast.Assign) and isinstance(node.value, (ast.Dict, ast.List, ast.Tuple))}
            read = []
            for node in ast.walk(tree):
                if isinstance(node, ast.Subscript) and isinstance(node.ctx, ast.Load):
                    read.append(node.value)
                if isinstance(node, ast.Compare) and isinstance(node.ops[0], ast.In):
                    read.append(node.comparators[0])
            for node in ast.walk(tree):
                if isinstance(node, ast.Name) and isinstance(node.ctx, ast.Load) and node.id in kept:
                    self.assertIn(node, read, f"{name}:{node.lineno}")

    def test_keywords(self):
        for place, node in nodes(ast.Call):
            for keyword in node.keywords:
                self.assertEqual((node.func.id, keyword.arg, type(keyword.value)), ("sorted", "key", ast.Lambda), place)

    def test_functions_and_classes(self):
        for place, node in nodes(ast.FunctionDef):
            plain = node.args
            self.assertFalse(node.decorator_list or plain.vararg or plain.kwarg or plain.kwonlyargs or plain.posonlyargs, place)
            self.assertTrue(node.returns is None and all(one.annotation is None for one in plain.args), place)
        for place, node in nodes(ast.ClassDef):
            self.assertFalse(node.decorator_list or node.keywords or len(node.bases) > 1, place)
            for part in node.body:
                self.assertIsInstance(part, ast.FunctionDef, place)
            methods = [part.name for part in node.body]
            self.assertEqual(len(methods), len(set(methods)), place)

    def test_imports_come_from_the_defining_file_and_never_in_a_ring(self):
        drawn = {}
        for name, tree in trees():
            drawn[name] = set()
            for node in tree.body:
                if isinstance(node, ast.ImportFrom):
                    self.assertRegex(node.module, r"^toldchance\.[a-z0-9_]+$")
                    other = node.module.split(".")[1] + ".py"
                    drawn[name].add(other)
                    for one in node.names:
                        self.assertIsNone(one.asname)
                        self.assertIn(one.name, self.names_at_top(other))
        while drawn:
            free = [name for name, others in drawn.items() if not others & set(drawn)]
            self.assertTrue(free, drawn)
            for name in free:
                del drawn[name]

    def names_at_top(self, name):
        found = []
        for node in ast.parse(SOURCES[name]).body:
            if isinstance(node, (ast.FunctionDef, ast.ClassDef)):
                found.append(node.name)
            if isinstance(node, ast.Assign):
                found.append(node.targets[0].id)
        self.assertEqual(len(found), len(set(found)), name)
        return found

    def test_names(self):
        python = set(dir(__builtins__) if not isinstance(__builtins__, dict) else __builtins__)
        for name, tree in trees():
            imported = {one.name for node in tree.body if isinstance(node, ast.ImportFrom) for one in node.names}
            top = set(self.names_at_top(name))
            classes = {node.name for node in tree.body if isinstance(node, ast.ClassDef)}
            bound = {node.arg for node in ast.walk(tree) if isinstance(node, ast.arg)}
            bound |= {node.id for node in ast.walk(tree) if isinstance(node, ast.Name) and isinstance(node.ctx, ast.Store)}
            self.assertEqual(bound & (imported | classes | python), set(), name)
            for node in ast.walk(tree):
                if isinstance(node, ast.Name):
                    self.assertIn(node.id, bound | top | imported | BUILTINS, name)
                    self.assertFalse(node.id.startswith("_"), name)

    def test_methods_and_values(self):
        methods = {part.name for _, node in nodes(ast.ClassDef) for part in node.body if isinstance(part, ast.FunctionDef)}
        values = {node.attr for _, node in nodes(ast.Attribute) if isinstance(node.ctx, ast.Store)}
        self.assertEqual(methods & values, set())
        for place, node in nodes(ast.Attribute):
            self.assertIn(node.attr, methods | values | PYTHONS_METHODS, place)
        for kind in (str, int, list, dict, set, bytes):
            self.assertEqual((methods - {"__init__"} - PYTHONS_METHODS) & set(dir(kind)), set())
            self.assertEqual((values - {"count", "index"}) & set(dir(kind)), set())
