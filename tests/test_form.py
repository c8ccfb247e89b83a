"""The form of the package's code: a part of the rules of LANGUAGE.md, not all of them (README.md says which)."""

import ast
import builtins
import os
import re
import unittest

PACKAGE = "sheetfold"
TOP = os.path.join(os.path.dirname(os.path.dirname(os.path.abspath(__file__))), PACKAGE)

OWN_NAMES = set(
    "len range enumerate zip min max sum abs sorted reversed int str bool list tuple dict set frozenset isinstance ord"
    " repr any all divmod Exception ValueError TypeError KeyError IndexError LookupError ZeroDivisionError"
    " ArithmeticError OverflowError RuntimeError NotImplementedError AttributeError StopIteration".split()
)
METHODS = set(
    "append clear copy count endswith extend find get index insert isalnum isalpha isdigit islower isspace isupper"
    " items join keys ljust lower lstrip partition pop remove replace reverse rfind rjust rpartition rsplit rstrip"
    " setdefault split splitlines startswith strip update upper values zfill bit_length".split()
)
CLASS_METHODS = {"__init__", "__eq__", "__repr__", "__str__", "__len__"}
UNUSED = set(
    "register mro elements open input version_info with_traceback add_note attrgetter breakpoint builtins compile"
    " copyright credits delattr dir eval exec exit gc getattr globals hasattr help id importlib license locals"
    " methodcaller os quit setattr super sys type vars format format_map".split()
)
WORDS = (
    "type typing typing_extensions enum Enum IntEnum StrEnum Flag IntFlag Generic Protocol ABC ABCMeta namedtuple"
    " NamedTuple TypedDict TYPE_CHECKING abstractmethod".split()
)
PARTS_OF_WORDS = ["dataclass", "overload", "contextmanager"]
SYNTAX = set(
    "Module FunctionDef ClassDef Return Assign AugAssign For While If Raise Try ExceptHandler ImportFrom alias Expr"
    " Pass Break Continue BoolOp BinOp UnaryOp Lambda IfExp Dict Set ListComp comprehension Compare Call keyword"
    " FormattedValue JoinedStr Constant Attribute Subscript Name List Tuple Slice Load Store arguments arg"
    " And Or Add Sub Mult FloorDiv Mod Pow LShift RShift BitOr BitXor BitAnd Invert Not UAdd USub"
    " Eq NotEq Lt LtE Gt GtE Is IsNot In NotIn".split()
)
BIND_ONCE = (ast.FunctionDef, ast.ClassDef)


def package_files():
    return sorted(name for name in os.listdir(TOP) if name != "__pycache__")


def text_of(name):
    with open(os.path.join(TOP, name), encoding="utf-8") as source:
        return source.read()


def trees():
    return {name: ast.parse(text_of(name)) for name in package_files()}


def top_names(tree):
    """The names bound at a file's top, imports aside, each as often as it is bound."""
    names = []
    for node in tree.body:
        if isinstance(node, BIND_ONCE):
            names.append(node.name)
        elif isinstance(node, ast.Assign):
            names.extend(target.id for target in node.targets)
    return names


def imported(tree):
    return [alias.name for node in tree.body if isinstance(node, ast.ImportFrom) for alias in node.names]


def bound_names(tree):
    """Every name that is bound within defs: parameters, locals, loop names, handlers' names."""
    names = []
    for node in ast.walk(tree):
        if isinstance(node, ast.arg):
            names.append(node.arg)
        elif isinstance(node, ast.Name) and isinstance(node.ctx, ast.Store):
            names.append(node.id)
        elif isinstance(node, ast.ExceptHandler) and node.name:
            names.append(node.name)
        elif isinstance(node, ast.FunctionDef):
            within = [inner for part in node.body for inner in ast.walk(part)]
            names.extend(inner.name for inner in within if isinstance(inner, ast.FunctionDef))
    return names


def draws_from(tree):
    return [node.module.split(".")[1] + ".py" for node in tree.body if isinstance(node, ast.ImportFrom)]


class Files(unittest.TestCase):
    def test_plain_python_files_alone(self):
        self.assertIn("__init__.py", package_files())
        for name in package_files():
            self.assertTrue(re.fullmatch(r"__init__\.py|__main__\.py|[a-z][a-z0-9_]*\.py", name), name)
            stem = name[:-3]
            taken = hasattr(builtins, stem) or stem in WORDS or stem.startswith("test")
            self.assertFalse(taken and name != "__init__.py", name)

    def test_signs_and_sizes(self):
        for name in package_files():
            rows = text_of(name).split("\n")
            self.assertLessEqual(len(rows), 400, name)
            for row in rows:
                self.assertTrue(len(row) <= 120 and all(" " <= sign <= "~" for sign in row), (name, row))

    def test_words_that_stand_nowhere(self):
        for name in package_files():
            words = re.findall(r"\w+", text_of(name))
            self.assertEqual([word for word in words if word in WORDS], [], name)
            self.assertEqual([part for part in PARTS_OF_WORDS if part in text_of(name)], [], name)


class Tops(unittest.TestCase):
    def test_what_stands_at_a_top(self):
        for name, tree in trees().items():
            self.assertIsNotNone(ast.get_docstring(tree), name)
            for node in tree.body[1:]:
                kinds = (ast.ImportFrom, ast.FunctionDef, ast.ClassDef, ast.Assign)
                self.assertTrue(isinstance(node, kinds), (name, node.lineno))

    def test_each_name_once(self):
        for name, tree in trees().items():
            names = top_names(tree) + imported(tree)
            self.assertEqual(len(names), len(set(names)), name)

    def test_imports(self):
        files = trees()
        for name, tree in files.items():
            for node in ast.walk(tree):
                if isinstance(node, ast.ImportFrom):
                    self.assertIn(node, tree.body, name)
                    self.assertEqual((node.level, node.module.split(".")[0]), (0, PACKAGE), name)
                    for alias in node.names:
                        self.assertIsNone(alias.asname, name)
                        self.assertIn(alias.name, top_names(files[node.module.split(".")[1] + ".py"]), name)

    def test_no_two_files_draw_from_one_another(self):
        left = {name: set(draws_from(tree)) for name, tree in trees().items()}
        while left:
            free = [name for name in left if not left[name] & set(left)]
            self.assertNotEqual(free, [], sorted(left))
            left = {name: drawn for name, drawn in left.items() if name not in free}

    def test_init_draws_from_nothing(self):
        self.assertEqual((imported(trees()["__init__.py"]), top_names(trees()["__init__.py"])), ([], []))


class Names(unittest.TestCase):
    def test_plain_names(self):
        for name, tree in trees().items():
            for bound in bound_names(tree) + top_names(tree):
                self.assertTrue(re.fullmatch(r"[A-Za-z][A-Za-z0-9_]*", bound), (name, bound))

    def test_no_name_takes_another_ones_place(self):
        for name, tree in trees().items():
            classes = [node.name for node in tree.body if isinstance(node, ast.ClassDef)]
            for bound in bound_names(tree) + top_names(tree):
                self.assertFalse(hasattr(builtins, bound), (name, bound))
            for bound in bound_names(tree):
                self.assertNotIn(bound, classes + imported(tree), name)

    def test_only_the_listed_names_of_pythons_own(self):
        for name, tree in trees().items():
            known = OWN_NAMES | set(bound_names(tree) + top_names(tree) + imported(tree))
            for node in ast.walk(tree):
                if isinstance(node, ast.Name):
                    self.assertIn(node.id, known, (name, node.lineno))
                    self.assertNotIn(node.id, UNUSED, (name, node.lineno))

    def test_only_the_listed_methods_and_own_ones(self):
        classes = [node for tree in trees().values() for node in ast.walk(tree) if isinstance(node, ast.ClassDef)]
        own = {inner.name for node in classes for inner in node.body if isinstance(inner, ast.FunctionDef)}
        for name, tree in trees().items():
            for node in ast.walk(tree):
                if isinstance(node, ast.Call) and isinstance(node.func, ast.Attribute):
                    self.assertIn(node.func.attr, METHODS | own, (name, node.lineno))
                if isinstance(node, ast.Attribute):
                    self.assertNotIn(node.attr, UNUSED, (name, node.lineno))


class Code(unittest.TestCase):
    def nodes(self, *kinds):
        return [(name, node) for name, tree in trees().items() for node in ast.walk(tree) if isinstance(node, kinds)]

    def test_syntax_of_the_small_part_alone(self):
        for name, node in self.nodes(ast.AST):
            self.assertIn(type(node).__name__, SYNTAX, (name, getattr(node, "lineno", None)))

    def test_functions(self):
        for name, node in self.nodes(ast.FunctionDef):
            place = (name, node.name)
            self.assertLessEqual(node.end_lineno - node.lineno + 1, 40, place)
            self.assertEqual(node.decorator_list, [], place)
            self.assertIsNone(node.args.vararg or node.args.kwarg, place)
            self.assertEqual(node.args.posonlyargs + node.args.kwonlyargs, [], place)

    def test_classes(self):
        for name, node in self.nodes(ast.ClassDef):
            place = (name, node.name)
            self.assertTrue(len(node.bases) <= 1 and not node.keywords and not node.decorator_list, place)
            for inner in node.body:
                docstring = isinstance(inner, ast.Expr) and isinstance(inner.value, ast.Constant)
                self.assertTrue(docstring or isinstance(inner, (ast.FunctionDef, ast.Pass)), place)
            methods = [inner.name for inner in node.body if isinstance(inner, ast.FunctionDef)]
            self.assertEqual(len(methods), len(set(methods)), place)
            for method in methods:
                self.assertTrue(re.fullmatch(r"[A-Za-z]\w*", method) or method in CLASS_METHODS, place)

    def test_statements(self):
        for name, node in self.nodes(ast.Assign):
            # One target: neither `a = b = c` nor `a, b = c`.
            self.assertEqual(len(node.targets), 1, (name, node.lineno))
            self.assertFalse(isinstance(node.targets[0], (ast.Tuple, ast.List)), (name, node.lineno))
        for name, node in self.nodes(ast.For, ast.While):
            self.assertEqual(node.orelse, [], (name, node.lineno))
        for name, node in self.nodes(ast.Try):
            self.assertEqual(node.finalbody, [], (name, node.lineno))
        for name, node in self.nodes(ast.ExceptHandler):
            self.assertIsNotNone(node.type, (name, node.lineno))

    def test_values(self):
        for name, node in self.nodes(ast.Constant):
            value = node.value
            self.assertTrue(value is None or isinstance(value, (int, str)), (name, node.lineno))
            self.assertFalse(isinstance(value, str) and "%" in value, (name, node.lineno))
        for name, node in self.nodes(ast.ListComp):
            self.assertEqual(len(node.generators), 1, (name, node.lineno))
            self.assertLessEqual(len(node.generators[0].ifs), 1, (name, node.lineno))
        for name, node in self.nodes(ast.FormattedValue):
            self.assertTrue(isinstance(node.value, ast.Name) and node.format_spec is None, (name, node.lineno))
        for name, node in self.nodes(ast.BinOp):
            if isinstance(node.op, ast.Pow):
                self.assertIsInstance(node.right, ast.Constant, (name, node.lineno))
                self.assertTrue(0 <= node.right.value <= 64, (name, node.lineno))

    def test_is_stands_beside_none_true_and_false_alone(self):
        for name, node in self.nodes(ast.Compare):
            for op, right in zip(node.ops, node.comparators):
                if isinstance(op, (ast.Is, ast.IsNot)):
                    plain = isinstance(right, ast.Constant) and (right.value is None or isinstance(right.value, bool))
                    self.assertTrue(plain, (name, node.lineno))


if __name__ == "__main__":
    unittest.main()
