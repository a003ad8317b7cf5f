"""Holds the package's files to many of the rules of ../shared/LANGUAGE.md: those that a short walk over their syntax can see."""

import ast
import builtins
import pathlib
import re
import unittest

PACKAGE = pathlib.Path(__file__).resolve().parent.parent / "lodgefair"

STATEMENTS = (
    ast.Assign, ast.AugAssign, ast.If, ast.While, ast.For, ast.Return, ast.Break, ast.Continue, ast.Pass, ast.Raise,
    ast.Try, ast.Expr, ast.FunctionDef, ast.ClassDef, ast.ImportFrom,
)
EXPRESSIONS = (
    ast.Constant, ast.List, ast.Tuple, ast.Dict, ast.Set, ast.BinOp, ast.UnaryOp, ast.BoolOp, ast.Compare, ast.IfExp,
    ast.Call, ast.Attribute, ast.Subscript, ast.Slice, ast.ListComp, ast.JoinedStr, ast.FormattedValue, ast.Name,
    ast.Lambda,
)
BUILTINS = set(
    "len range enumerate zip min max sum abs sorted reversed int str bool list tuple dict set frozenset isinstance ord "
    "repr any all divmod Exception ValueError TypeError KeyError IndexError LookupError ZeroDivisionError "
    "ArithmeticError OverflowError RuntimeError NotImplementedError AttributeError StopIteration".split()
)
METHODS = set(
    "append clear copy count endswith extend find get index insert isalnum isalpha isdigit islower isspace isupper "
    "items join keys ljust lower lstrip partition pop remove replace reverse rfind rjust rpartition rsplit rstrip "
    "setdefault split splitlines startswith strip update upper values zfill bit_length __init__".split()
)
DUNDERS = {"__init__", "__eq__", "__repr__", "__str__", "__len__", "__all__", "__version__"}
NEVER_NAMES = set(
    "register mro elements open input version_info with_traceback add_note attrgetter breakpoint builtins compile "
    "copyright credits delattr dir eval exec exit gc getattr globals hasattr help id importlib license locals "
    "methodcaller os quit setattr super vars sys chr format format_map".split()
)
NEVER_WORDS = re.compile(
    r"\b(type|typing|typing_extensions|enum|Enum|IntEnum|StrEnum|Flag|IntFlag|Generic|Protocol|ABC|ABCMeta|namedtuple|"
    r"NamedTuple|TypedDict|TYPE_CHECKING|abstractmethod)\b|dataclass|overload|contextmanager"
)

KEYWORDS = {
    ("sorted", "key"), ("sorted", "reverse"), ("min", "key"), ("min", "default"), ("max", "key"), ("max", "default"),
    ("sum", "start"), ("enumerate", "start"), ("zip", "strict"),
}
WALKED = {"zip", "enumerate", "reversed", "range", "items", "keys", "values"}
WALKERS = {"list", "tuple", "dict", "sorted", "sum", "any", "all", "enumerate", "zip", "min", "max"}
CALLED = set("len range enumerate zip min max sum abs sorted reversed isinstance ord repr any all divmod".split())


def sources():
    return sorted(path for path in PACKAGE.iterdir() if path.name != "__pycache__")


def bound_names(tree):
    """Every name that the file gives a meaning, with the line where it does so."""
    for node in ast.walk(tree):
        if isinstance(node, (ast.FunctionDef, ast.ClassDef)):
            yield node.name, node.lineno
        elif isinstance(node, ast.arg):
            yield node.arg, node.lineno
        elif isinstance(node, ast.Name) and isinstance(node.ctx, ast.Store):
            yield node.id, node.lineno
        elif isinstance(node, ast.ExceptHandler) and node.name:
            yield node.name, node.lineno


def top_names(tree):
    names = [node.name for node in tree.body if isinstance(node, (ast.FunctionDef, ast.ClassDef))]
    for node in tree.body:
        if isinstance(node, ast.Assign):
            names.extend(target.id for target in node.targets)
    return names


def imported_names(tree):
    return [alias.name for node in tree.body if isinstance(node, ast.ImportFrom) for alias in node.names]


class TheLanguage(unittest.TestCase):
    @classmethod
    def setUpClass(cls):
        cls.texts = {path.stem: path.read_bytes().decode("utf-8") for path in sources()}
        cls.trees = {name: ast.parse(text) for name, text in cls.texts.items()}

    def each_node(self, kinds):
        for name, tree in self.trees.items():
            for node in ast.walk(tree):
                if isinstance(node, kinds):
                    yield f"{name}:{getattr(node, 'lineno', 0)}", node

    def test_the_files(self):
        for path in sources():
            self.assertTrue(path.is_file() and re.fullmatch(r"[a-z0-9_]+\.py", path.name), path)
            self.assertFalse(path.stem in vars(builtins) or path.stem in NEVER_NAMES, path)
        self.assertIn("__init__", self.texts)

    def test_the_signs_and_sizes(self):
        for name, text in self.texts.items():
            self.assertRegex(text, r"\A[ -~\n]*\Z", name)
            rows = text.split("\n")
            self.assertLessEqual(len(rows), 400, name)
            self.assertLessEqual(max(len(row) for row in rows), 120, name)
        for where, node in self.each_node(ast.FunctionDef):
            self.assertLessEqual(node.end_lineno - node.lineno + 1, 40, where)

    def test_the_words(self):
        for name, text in self.texts.items():
            self.assertIsNone(NEVER_WORDS.search(text), name)

    def test_the_top_of_a_file(self):
        for name, tree in self.trees.items():
            for place, node in enumerate(tree.body):
                if place == 0 and ast.get_docstring(tree) is not None:
                    continue
                self.assertIsInstance(node, (ast.ImportFrom, ast.FunctionDef, ast.ClassDef, ast.Assign), name)
            names = top_names(tree) + imported_names(tree)
            self.assertEqual(len(names), len(set(names)), name)

    def test_the_imports(self):
        drawn = {name: set() for name in self.trees}
        for name, tree in self.trees.items():
            for node in tree.body:
                if isinstance(node, ast.ImportFrom):
                    self.assertEqual(node.level, 0, name)
                    package, _, source = node.module.partition(".")
                    self.assertEqual(package, "lodgefair", name)
                    for alias in node.names:
                        self.assertIn(alias.name, top_names(self.trees[source]), name)
                    drawn[name].add(source)
        while drawn:
            ends = [name for name, others in drawn.items() if not others & set(drawn)]
            self.assertTrue(ends, f"files that draw from one another: {sorted(drawn)}")
            for name in ends:
                del drawn[name]

    def test_the_statements(self):
        for where, node in self.each_node(ast.stmt):
            self.assertIsInstance(node, STATEMENTS, where)
            if isinstance(node, ast.Assign):
                self.assertEqual(len(node.targets), 1, where)
                self.assertNotIsInstance(node.targets[0], (ast.Tuple, ast.List), where)
            elif isinstance(node, (ast.For, ast.While)):
                self.assertEqual(node.orelse, [], where)
            elif isinstance(node, ast.Try):
                self.assertEqual(node.finalbody, [], where)
            elif isinstance(node, ast.Expr) and node.lineno > 1:
                self.assertIsInstance(node.value, ast.Call, where)

    def test_the_functions_and_classes(self):
        for where, node in self.each_node((ast.FunctionDef, ast.ClassDef)):
            self.assertEqual(node.decorator_list, [], where)
            if isinstance(node, ast.ClassDef):
                self.assertLessEqual(len(node.bases) + len(node.keywords), 1, where)
                for part in node.body:
                    self.assertIsInstance(part, (ast.FunctionDef, ast.Pass), where)
        for where, node in self.each_node(ast.arguments):
            self.assertFalse(node.vararg or node.kwarg or node.kwonlyargs or node.posonlyargs, where)

    def test_the_expressions(self):
        for where, node in self.each_node(ast.expr):
            self.assertIsInstance(node, EXPRESSIONS, where)
            if isinstance(node, ast.Constant):
                self.assertIn(type(node.value), (int, str, bool, type(None)), where)
            elif isinstance(node, ast.ListComp):
                self.assertEqual(len(node.generators), 1, where)
                self.assertLessEqual(len(node.generators[0].ifs), 1, where)
            elif isinstance(node, ast.FormattedValue):
                self.assertIsInstance(node.value, ast.Name, where)
                self.assertIsNone(node.format_spec, where)
        for where, node in self.each_node((ast.Div, ast.MatMult)):
            self.fail(f"{where}: {node}")

    def test_is_stands_beside_none_true_and_false(self):
        for where, node in self.each_node(ast.Compare):
            for operator, right in zip(node.ops, node.comparators):
                if isinstance(operator, (ast.Is, ast.IsNot)):
                    self.assertTrue(isinstance(right, ast.Constant) and right.value in (None, True, False), where)

    def test_the_names(self):
        for name, tree in self.trees.items():
            imported = imported_names(tree)
            classes = [node.name for node in tree.body if isinstance(node, ast.ClassDef)]
            for word, line in bound_names(tree):
                where = f"{name}:{line} {word}"
                if word in DUNDERS:
                    continue
                self.assertRegex(word, r"\A[A-Za-z][A-Za-z0-9_]*\Z", where)
                self.assertFalse(word in vars(builtins) or word in NEVER_NAMES or word in imported, where)
                self.assertLessEqual(classes.count(word), 1, where)

    def test_the_names_that_are_read(self):
        for name, tree in self.trees.items():
            known = {word for word, _ in bound_names(tree)} | set(imported_names(tree)) | BUILTINS
            for node in ast.walk(tree):
                if isinstance(node, ast.Name):
                    self.assertIn(node.id, known, f"{name}:{node.lineno}")

    def test_the_methods(self):
        own = {node.name for _, node in self.each_node(ast.FunctionDef)}
        for where, node in self.each_node(ast.Call):
            if isinstance(node.func, ast.Attribute):
                self.assertIn(node.func.attr, METHODS | own, where)
        for where, node in self.each_node(ast.Attribute):
            self.assertNotIn(node.attr, NEVER_NAMES, where)

    def test_the_texts_and_powers(self):
        for where, node in self.each_node(ast.Constant):
            if isinstance(node.value, str):
                self.assertNotIn("%", node.value, where)
                self.assertRegex(node.value, r"\A[ -~\n\t]*\Z", where)
        for where, node in self.each_node(ast.BinOp):
            if isinstance(node.op, ast.Pow):
                self.assertIsInstance(node.right, ast.Constant, where)

    def test_nothing_is_annotated(self):
        for where, node in self.each_node((ast.FunctionDef, ast.arg)):
            self.assertIsNone(node.returns if isinstance(node, ast.FunctionDef) else node.annotation, where)

    def test_the_keywords(self):
        for where, node in self.each_node(ast.Call):
            called = node.func.id if isinstance(node.func, ast.Name) else None
            for keyword in node.keywords:
                self.assertIn((called, keyword.arg), KEYWORDS, where)
                if keyword.arg == "key":
                    self.assertIsInstance(keyword.value, (ast.Lambda, ast.Name), where)

    def test_no_sets(self):
        for where, node in self.each_node((ast.Set, ast.Name)):
            self.assertFalse(isinstance(node, ast.Set) or node.id in ("set", "frozenset"), where)

    def test_what_is_walked_at_once(self):
        for name, tree in self.trees.items():
            spots = []
            for node in ast.walk(tree):
                if isinstance(node, (ast.For, ast.comprehension)):
                    spots.append(node.iter)
                elif isinstance(node, ast.Call) and isinstance(node.func, ast.Name) and node.func.id in WALKERS:
                    spots.extend(node.args[:1])
            for node in ast.walk(tree):
                if isinstance(node, ast.Call) and getattr(node.func, "id", getattr(node.func, "attr", "")) in WALKED:
                    self.assertIn(node, spots, f"{name}:{node.lineno}")

    def test_the_errors(self):
        own = top_names(self.trees["errors"])
        for where, node in self.each_node(ast.ExceptHandler):
            self.assertIsInstance(node.type, ast.Name, where)
            self.assertIn(node.type.id, own, where)
        for where, node in self.each_node(ast.Raise):
            self.assertIsInstance(node.exc, ast.Call, where)
            self.assertIn(node.exc.func.id, own, where)
            self.assertTrue(node.cause is None or node.cause.value is None, where)

    def test_methods_are_called_where_they_stand(self):
        called = [node.func for _, node in self.each_node(ast.Call)]
        for where, node in self.each_node(ast.Attribute):
            self.assertTrue(node in called or node.attr not in METHODS, where)

    def test_functions_of_pythons_own_are_called_where_they_stand(self):
        called = [node.func for _, node in self.each_node(ast.Call)]
        for where, node in self.each_node(ast.Name):
            if node.id in CALLED:
                self.assertIn(node, called, where)

    def test_two_lambdas_do_not_share_a_line(self):
        lines = [where for where, _ in self.each_node(ast.Lambda)]
        self.assertEqual(len(lines), len(set(lines)))


if __name__ == "__main__":
    unittest.main()
