"""Looks the package's files over by the rules of the small language that show in a file's form.

It sees a part of the rules alone; point 0.4 (no clock, no chance, no files) rests on its looks at imports and names.
"""

import ast
import builtins
import pathlib
import re
import unittest

PACKAGE = pathlib.Path(__file__).resolve().parent.parent / "spinfloor"

OWN_NAMES = set("""
    len range enumerate zip min max sum abs sorted reversed int str bool list tuple dict set frozenset isinstance
    ord repr any all divmod Exception ValueError TypeError KeyError IndexError LookupError ZeroDivisionError
    ArithmeticError OverflowError RuntimeError NotImplementedError AttributeError StopIteration
""".split())
OWN_METHODS = set("""
    append clear copy count endswith extend find get index insert isalnum isalpha isdigit islower isspace isupper
    items join keys ljust lower lstrip partition pop remove replace reverse rfind rjust rpartition rsplit rstrip
    setdefault split splitlines startswith strip update upper values zfill bit_length
""".split())
TWO_UNDERSCORES = {"__init__", "__eq__", "__repr__", "__str__", "__len__"}
NO_WORDS = re.compile(
    r"\b(type|typing|typing_extensions|enum|Enum|IntEnum|StrEnum|Flag|IntFlag|Generic|Protocol|ABC|ABCMeta"
    r"|namedtuple|NamedTuple|TypedDict|TYPE_CHECKING|abstractmethod)\b|dataclass|overload|contextmanager"
)
NODES = set("""
    Module Expr Assign AugAssign If While For Return Break Continue Pass Raise Try ExceptHandler FunctionDef ClassDef
    arguments arg Lambda Name Constant List Tuple Dict Set BinOp UnaryOp BoolOp Compare IfExp Call Attribute Subscript
    Slice ListComp comprehension JoinedStr FormattedValue keyword ImportFrom alias Load Store And Or Not USub UAdd
    Invert Add Sub Mult FloorDiv Mod Pow LShift RShift BitOr BitXor BitAnd Eq NotEq Lt LtE Gt GtE Is IsNot In NotIn
""".split())
TOP_NODES = (ast.ImportFrom, ast.FunctionDef, ast.ClassDef, ast.Assign)


def sources():
    return {path.stem: path.read_text(encoding="utf-8") for path in sorted(PACKAGE.glob("*.py"))}


def bound_at_top(tree):
    names = []
    for node in tree.body:
        if isinstance(node, (ast.FunctionDef, ast.ClassDef)):
            names.append(node.name)
        if isinstance(node, ast.Assign):
            names.append(node.targets[0].id)
    return names


def imported(tree):
    return [alias.asname or alias.name for node in tree.body if isinstance(node, ast.ImportFrom) for alias in node.names]


def bound_within(tree):
    within = [node.arg for node in ast.walk(tree) if isinstance(node, ast.arg)]
    within += [node.id for node in ast.walk(tree) if isinstance(node, ast.Name) and isinstance(node.ctx, ast.Store)]
    return within + [node.name for node in ast.walk(tree) if isinstance(node, ast.ExceptHandler) and node.name]


def called(call):
    return getattr(call.func, "id", None) or getattr(call.func, "attr", None)


class Language(unittest.TestCase):
    def setUp(self):
        self.texts = sources()
        self.trees = {name: ast.parse(text) for name, text in self.texts.items()}

    def every(self, kind):
        for name, tree in self.trees.items():
            for node in ast.walk(tree):
                if isinstance(node, kind):
                    yield f"{name}.py:{getattr(node, 'lineno', 0)}", node

    def test_files(self):
        for path in PACKAGE.iterdir():
            if path.name != "__pycache__":
                self.assertRegex(path.name, r"^([a-z][a-z0-9_]*|__init__|__main__)\.py$")
        self.assertIn("__init__", self.texts)

    def test_signs_and_sizes(self):
        for name, text in self.texts.items():
            self.assertEqual([sign for sign in text if sign != "\n" and not " " <= sign <= "~"], [], name)
            self.assertEqual([row for row in text.splitlines() if len(row) > 120], [], name)
            self.assertLessEqual(len(text.splitlines()), 400, name)
        for where, node in self.every(ast.FunctionDef):
            self.assertLessEqual(node.end_lineno - node.lineno + 1, 40, where)

    def test_words(self):
        for name, text in self.texts.items():
            self.assertIsNone(NO_WORDS.search(text), name)

    def test_imports(self):
        draws = {}
        for name, tree in self.trees.items():
            draws[name] = []
            for node in tree.body:
                if isinstance(node, ast.ImportFrom):
                    self.assertEqual((node.level, node.module.partition(".")[0]), (0, "spinfloor"), name)
                    source = node.module.partition(".")[2]
                    draws[name].append(source)
                    for alias in node.names:
                        self.assertIn(alias.name, bound_at_top(self.trees[source]), name)
        while draws:
            free = [name for name in draws if not [source for source in draws[name] if source in draws]]
            self.assertTrue(free, "files draw from one another")
            draws = {name: draws[name] for name in draws if name not in free}

    def test_the_top_of_a_file(self):
        for name, tree in self.trees.items():
            self.assertIsNotNone(ast.get_docstring(tree), name)
            for node in tree.body[1:]:
                self.assertIsInstance(node, TOP_NODES, name)
            bound = bound_at_top(tree) + imported(tree)
            self.assertEqual(len(bound), len(set(bound)), name)

    def test_forms(self):
        for where, node in self.every(ast.AST):
            self.assertIn(node.__class__.__name__, NODES, where)
        for where, node in self.every(ast.Constant):
            self.assertIn(type(node.value), (int, str, bool, type(None)), where)
            if isinstance(node.value, str):
                self.assertNotIn("%", node.value, where)
        for where, node in self.every((ast.For, ast.While)):
            self.assertEqual(node.orelse, [], where)
        for where, node in self.every(ast.Try):
            self.assertEqual(node.finalbody, [], where)
        for where, node in self.every(ast.Assign):
            self.assertEqual(len(node.targets), 1, where)
        for where, node in self.every((ast.FunctionDef, ast.ClassDef)):
            self.assertEqual(node.decorator_list, [], where)
        for where, node in self.every(ast.arguments):
            self.assertEqual((node.vararg, node.kwarg, node.kwonlyargs, node.posonlyargs), (None, None, [], []), where)

    def test_expressions(self):
        for where, node in self.every(ast.BinOp):
            if isinstance(node.op, ast.Pow):
                self.assertIsInstance(node.right, ast.Constant, where)
                self.assertIn(node.right.value, range(65), where)
        for where, node in self.every(ast.Compare):
            for operator, value in zip(node.ops, node.comparators):
                if isinstance(operator, (ast.Is, ast.IsNot)):
                    self.assertIsInstance(value, ast.Constant, where)
                    self.assertIn(value.value, (None, True, False), where)
        for where, node in self.every(ast.ListComp):
            self.assertEqual(len(node.generators), 1, where)
            self.assertLessEqual(len(node.generators[0].ifs), 1, where)
        for where, node in self.every(ast.FormattedValue):
            self.assertIsInstance(node.value, ast.Name, where)
            self.assertIsNone(node.format_spec, where)
        for where, node in self.every((ast.Set, ast.Starred)):
            self.fail(where)
        for where, node in self.every(ast.keyword):
            self.assertIn(node.arg, ("key", "reverse", "default", "start", "strict"), where)

    def test_plain_values_at_the_top(self):
        plain = (ast.Constant, ast.List, ast.Tuple, ast.Dict, ast.Load)
        for name, tree in self.trees.items():
            for node in tree.body:
                if isinstance(node, ast.Assign):
                    for part in ast.walk(node.value):
                        self.assertIsInstance(part, plain, f"{name}.py:{node.lineno}")

    def test_walked_at_once(self):
        walked = ("zip", "enumerate", "reversed", "range", "items", "keys", "values")
        takers = ("list", "tuple", "dict", "sorted", "sum", "any", "all", "enumerate", "zip", "min", "max", "join")
        for tree_name, tree in self.trees.items():
            for parent in ast.walk(tree):
                for node in ast.iter_child_nodes(parent):
                    if isinstance(node, ast.Call) and called(node) in walked:
                        fits = isinstance(parent, (ast.For, ast.comprehension)) and parent.iter is node
                        fits = fits or isinstance(parent, ast.Call) and called(parent) in takers and parent.args[0] is node
                        self.assertTrue(fits, f"{tree_name}.py:{node.lineno}")

    def test_sets(self):
        for tree_name, tree in self.trees.items():
            for parent in ast.walk(tree):
                for node in ast.iter_child_nodes(parent):
                    if isinstance(node, ast.Call) and called(node) in ("set", "frozenset"):
                        fits = isinstance(parent, ast.Call) and called(parent) in ("sorted", "len")
                        self.assertTrue(fits and not parent.keywords, f"{tree_name}.py:{node.lineno}")

    def test_lists_stay_while_they_are_walked(self):
        changes = ("append", "clear", "extend", "insert", "pop", "remove", "reverse", "setdefault", "update")
        for where, node in self.every(ast.For):
            walked = [each.id for each in ast.walk(node.iter) if isinstance(each, ast.Name)]
            for part in [inner for row in node.body for inner in ast.walk(row)]:
                if isinstance(part, ast.Call) and called(part) in changes and isinstance(part.func.value, ast.Name):
                    self.assertNotIn(part.func.value.id, walked, where)
                if isinstance(part, ast.Subscript) and isinstance(part.ctx, ast.Store):
                    if isinstance(part.value, ast.Name) and not isinstance(node.iter, ast.Subscript):
                        self.assertNotIn(part.value.id, walked, where)

    def test_one_plain_target(self):
        for where, node in self.every(ast.Assign):
            self.assertIsInstance(node.targets[0], (ast.Name, ast.Attribute, ast.Subscript), where)

    def test_texts_by_themselves(self):
        docs = {id(tree.body[0]) for tree in self.trees.values()}
        for where, node in self.every(ast.Expr):
            if id(node) not in docs:
                self.assertIsInstance(node.value, ast.Call, where)

    def test_classes(self):
        for where, node in self.every(ast.ClassDef):
            self.assertLessEqual(len(node.bases), 1, where)
            names = [each.name for each in node.body if isinstance(each, ast.FunctionDef)]
            self.assertEqual(len(names), len(set(names)), where)
            self.assertEqual([each for each in node.body if not isinstance(each, (ast.FunctionDef, ast.Pass))], [], where)

    def test_names(self):
        python_s = set(dir(builtins))
        for name, tree in self.trees.items():
            top, within = bound_at_top(tree), bound_within(tree)
            known = set(top) | set(imported(tree)) | set(within) | OWN_NAMES
            for node in ast.walk(tree):
                if isinstance(node, ast.Name):
                    self.assertIn(node.id, known, name)
            methods = [node.name for node in ast.walk(tree) if isinstance(node, ast.FunctionDef)]
            for each in top + within + methods:
                self.assertTrue(each in TWO_UNDERSCORES or re.fullmatch(r"[A-Za-z][A-Za-z0-9_]*", each), (name, each))
            for each in top + within:
                self.assertNotIn(each, python_s, name)
            classes = [node.name for node in tree.body if isinstance(node, ast.ClassDef)]
            for each in within:
                self.assertNotIn(each, classes + imported(tree), name)

    def test_no_name_is_a_method_and_a_value(self):
        methods = {each.name for where, node in self.every(ast.ClassDef) for each in node.body if hasattr(each, "name")}
        for where, node in self.every(ast.Attribute):
            if isinstance(node.ctx, ast.Store):
                self.assertNotIn(node.attr, methods, where)

    def test_methods(self):
        pythons = {each for value in ("", 0, [], {}, set(), b"", ()) for each in dir(value)} - OWN_METHODS
        own = {node.name for where, node in self.every(ast.FunctionDef)}
        for where, node in self.every(ast.Attribute):
            if node.attr not in own:
                self.assertNotIn(node.attr, pythons, where)


if __name__ == "__main__":
    unittest.main()
