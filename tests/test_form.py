"""The form of the package's own files: the rules of LANGUAGE.md that a walk through the code can see."""

import ast
import builtins
import pathlib
import re
import unittest

PACKAGE = pathlib.Path(__file__).resolve().parent.parent / "roundlap"

STATEMENTS = (
    ast.Module, ast.FunctionDef, ast.ClassDef, ast.ImportFrom, ast.Assign, ast.AugAssign, ast.If, ast.While, ast.For,
    ast.Return, ast.Break, ast.Continue, ast.Pass, ast.Raise, ast.Try, ast.ExceptHandler, ast.Expr,
)
EXPRESSIONS = (
    ast.Constant, ast.List, ast.Tuple, ast.Dict, ast.BinOp, ast.UnaryOp, ast.Compare, ast.BoolOp, ast.IfExp, ast.Call,
    ast.Attribute, ast.Subscript, ast.Slice, ast.ListComp, ast.JoinedStr, ast.FormattedValue, ast.Name, ast.Lambda,
)
SMALL_PARTS = (
    ast.arguments, ast.arg, ast.keyword, ast.alias, ast.comprehension, ast.expr_context, ast.boolop, ast.unaryop,
    ast.cmpop, ast.Add, ast.Sub, ast.Mult, ast.FloorDiv, ast.Mod, ast.Pow, ast.BitAnd, ast.BitOr, ast.BitXor,
    ast.LShift, ast.RShift,
)
PYTHONS_OWN = set(
    "len range enumerate zip min max sum abs sorted reversed int str bool list tuple dict set frozenset isinstance ord "
    "repr any all divmod ValueError KeyError IndexError LookupError ZeroDivisionError StopIteration Exception".split()
)
METHODS = set(
    "append clear copy count endswith extend find get index insert isalnum isalpha isdigit islower isspace isupper "
    "items join keys ljust lower lstrip partition pop remove replace reverse rfind rjust rpartition rsplit rstrip "
    "setdefault split splitlines startswith strip update upper values zfill bit_length".split()
)
NO_WORDS = re.compile(
    r"\b(type|typing|typing_extensions|enum|Enum|IntEnum|StrEnum|Flag|IntFlag|Generic|Protocol|ABC|ABCMeta|namedtuple|"
    r"NamedTuple|TypedDict|TYPE_CHECKING|abstractmethod)\b|dataclass|overload|contextmanager"
)


def names_bound(tree):
    found = set()
    for node in ast.walk(tree):
        if isinstance(node, (ast.FunctionDef, ast.ClassDef)):
            found.add(node.name)
        elif isinstance(node, ast.arg):
            found.add(node.arg)
        elif isinstance(node, ast.alias):
            found.add(node.asname or node.name)
        elif isinstance(node, ast.Name) and isinstance(node.ctx, ast.Store):
            found.add(node.id)
        elif isinstance(node, ast.ExceptHandler) and node.name:
            found.add(node.name)
    return found


def values_set(tree):
    """The values that objects are given through self."""
    found = set()
    for node in ast.walk(tree):
        if isinstance(node, ast.Attribute) and isinstance(node.ctx, ast.Store):
            found.add(node.attr)
    return found


class FormTest(unittest.TestCase):
    def setUp(self):
        self.texts = {path.name: path.read_text(encoding="utf-8") for path in sorted(PACKAGE.glob("*.py"))}
        self.trees = {name: ast.parse(text) for name, text in self.texts.items()}
        self.assertIn("__init__.py", self.texts)

    def nodes(self, *kinds):
        for name, tree in self.trees.items():
            for node in ast.walk(tree):
                if not kinds or isinstance(node, kinds):
                    yield f"{name}:{getattr(node, 'lineno', 0)}", node

    def test_nothing_but_plain_files(self):
        for path in PACKAGE.iterdir():
            if path.name != "__pycache__":
                self.assertRegex(path.name, r"^(__init__|[a-z][a-z0-9_]*)\.py$")

    def test_sizes_and_signs(self):
        for name, text in self.texts.items():
            lines = text.split("\n")
            self.assertLessEqual(len(lines), 400, name)
            for number, line in enumerate(lines, 1):
                self.assertLessEqual(len(line), 120, f"{name}:{number}")
                self.assertRegex(line, r"^[ -~]*$", f"{name}:{number}")
                self.assertIsNone(NO_WORDS.search(line), f"{name}:{number}")
        for place, node in self.nodes(ast.FunctionDef):
            self.assertLessEqual(node.end_lineno - node.lineno + 1, 40, place)

    def test_parts_of_the_language(self):
        for place, node in self.nodes():
            self.assertIsInstance(node, STATEMENTS + EXPRESSIONS + SMALL_PARTS, place)
            self.assertFalse(getattr(node, "orelse", None) and isinstance(node, (ast.For, ast.While)), place)
            self.assertFalse(getattr(node, "finalbody", None), place)
            self.assertFalse(getattr(node, "decorator_list", None), place)
            if isinstance(node, ast.Assign):
                self.assertEqual(len(node.targets), 1, place)
            if isinstance(node, ast.ListComp):
                self.assertEqual(len(node.generators), 1, place)
                self.assertLessEqual(len(node.generators[0].ifs), 1, place)
            if isinstance(node, ast.Constant):
                self.assertTrue(node.value is None or isinstance(node.value, (int, str)), place)

    def test_an_expression_by_itself_is_a_call_or_heads_the_file(self):
        heads = [tree.body[0] for tree in self.trees.values()]
        for place, node in self.nodes(ast.Expr):
            if node not in heads:
                self.assertIsInstance(node.value, ast.Call, place)

    def test_is_stands_beside_none_true_and_false(self):
        for place, node in self.nodes(ast.Compare):
            if any(isinstance(sign, (ast.Is, ast.IsNot)) for sign in node.ops):
                self.assertIn(getattr(node.comparators[0], "value", 0), (None, True, False), place)

    def test_imports_are_the_defining_files_own_names(self):
        for place, node in self.nodes(ast.ImportFrom):
            self.assertEqual(node.level, 0, place)
            package, dot, file = node.module.partition(".")
            self.assertEqual(package, "roundlap", place)
            tree = self.trees[file + ".py"]
            defined = names_bound(ast.Module([part for part in tree.body if not isinstance(part, ast.ImportFrom)], []))
            for alias in node.names:
                self.assertIn(alias.name, defined, place)

    def test_names(self):
        for name, tree in self.trees.items():
            bound = names_bound(tree)
            for word in bound:
                self.assertRegex(word, r"^([A-Za-z][A-Za-z0-9_]*|__init__)$", name)
            self.assertEqual(bound & set(dir(builtins)), set(), name)
            for node in ast.walk(tree):
                if isinstance(node, ast.Name):
                    self.assertIn(node.id, bound | PYTHONS_OWN, f"{name}:{node.lineno}")

    def test_methods(self):
        own = set()
        for tree in self.trees.values():
            own |= names_bound(tree) | values_set(tree)
        for place, node in self.nodes(ast.Attribute):
            self.assertIn(node.attr, own | METHODS, place)

    def test_values_of_objects(self):
        for name, tree in self.trees.items():
            for word in values_set(tree):
                self.assertRegex(word, r"^[a-z][a-z0-9_]*$", name)
                for kind in (str, int, list, dict, set, bytes):
                    self.assertFalse(hasattr(kind, word), f"{name}: {word}")
            for node in ast.walk(tree):
                if isinstance(node, ast.Attribute) and isinstance(node.ctx, ast.Store):
                    self.assertEqual(getattr(node.value, "id", None), "self", f"{name}:{node.lineno}")

    def test_names_that_are_not_used(self):
        no_names = set("register mro elements open input version_info with_traceback add_note".split())
        for name, tree in self.trees.items():
            used = {node.attr for node in ast.walk(tree) if isinstance(node, ast.Attribute)}
            used |= {node.id for node in ast.walk(tree) if isinstance(node, ast.Name)} | names_bound(tree)
            self.assertEqual(used & no_names, set(), name)

    def test_no_two_files_draw_from_one_another(self):
        drawn = {}
        for name, tree in self.trees.items():
            rows = [node for node in tree.body if isinstance(node, ast.ImportFrom)]
            drawn[name] = {row.module.partition(".")[2] + ".py" for row in rows}
        for name in drawn:
            reached, grown = set(), set(drawn[name])
            while grown - reached:
                reached |= grown
                grown = set().union(*[drawn[other] for other in reached])
            self.assertNotIn(name, reached)

    def test_a_set_stands_beside_in_or_within_sorted_or_len(self):
        allowed = set()
        for place, node in self.nodes(ast.Call):
            if isinstance(node.func, ast.Name) and node.func.id in ("sorted", "len"):
                allowed |= {id(part) for part in ast.walk(node.args[0])}
        for place, node in self.nodes(ast.Compare):
            allowed |= {id(part) for side in [node.left] + node.comparators for part in ast.walk(side)}
        for place, node in self.nodes(ast.Call):
            if isinstance(node.func, ast.Name) and node.func.id in ("set", "frozenset"):
                self.assertIn(id(node), allowed, place)


if __name__ == "__main__":
    unittest.main()
