"""The package keeps to the plain part of Python it is written in: what a walk over its files can see of that."""

import ast
import builtins
import pathlib
import re
import unittest

PACKAGE = pathlib.Path(__file__).resolve().parent.parent / "shimright"

OWN_NAMES = set(
    "len range enumerate zip min max sum abs sorted reversed int str bool list tuple dict set frozenset isinstance ord "
    "repr any all divmod Exception ValueError TypeError KeyError IndexError LookupError ZeroDivisionError "
    "ArithmeticError OverflowError RuntimeError NotImplementedError AttributeError StopIteration".split()
)
METHODS = set(
    "append clear copy count endswith extend find get index insert isalnum isalpha isdigit islower isspace isupper "
    "items join keys ljust lower lstrip partition pop remove replace reverse rfind rjust rpartition rsplit rstrip "
    "setdefault split splitlines startswith strip update upper values zfill bit_length".split()
)
WORDS_NOWHERE = set(
    "type typing typing_extensions enum Enum IntEnum StrEnum Flag IntFlag Generic Protocol ABC ABCMeta namedtuple "
    "NamedTuple TypedDict TYPE_CHECKING abstractmethod".split()
)
NODES_OUT = (
    ast.With, ast.Match, ast.Delete, ast.Global, ast.Nonlocal, ast.Assert, ast.Yield, ast.YieldFrom, ast.Await,
    ast.AsyncFunctionDef, ast.AsyncFor, ast.AsyncWith, ast.Import, ast.SetComp, ast.DictComp, ast.GeneratorExp,
    ast.NamedExpr, ast.Starred, ast.Div, ast.MatMult,
)


def package_files():
    return sorted(path for path in PACKAGE.rglob("*") if path.is_file() and "__pycache__" not in path.parts)


def own_members(trees):
    found = set()
    for tree in trees:
        for node in ast.walk(tree):
            if isinstance(node, ast.ClassDef):
                found.update(part.name for part in node.body if isinstance(part, ast.FunctionDef))
            if isinstance(node, ast.Attribute) and isinstance(node.ctx, ast.Store):
                found.add(node.attr)
    return found


def bound_names(tree):
    for node in ast.walk(tree):
        if isinstance(node, (ast.FunctionDef, ast.ClassDef)):
            yield node.name
        if isinstance(node, ast.arg):
            yield node.arg
        if isinstance(node, ast.Name) and isinstance(node.ctx, ast.Store):
            yield node.id


WALKED = ("zip", "enumerate", "reversed", "range")
WALKERS = ("list", "tuple", "dict", "sorted", "sum", "any", "all", "enumerate", "zip", "min", "max")


def is_walk(node):
    if not isinstance(node, ast.Call):
        return False
    if isinstance(node.func, ast.Attribute):
        return node.func.attr in ("items", "keys", "values")
    return isinstance(node.func, ast.Name) and node.func.id in WALKED


def walked_on_the_spot(tree):
    """Everything that stands where something is walked at once."""
    for node in ast.walk(tree):
        if isinstance(node, (ast.For, ast.comprehension)):
            yield node.iter
        if isinstance(node, ast.Call) and isinstance(node.func, ast.Name) and node.func.id in WALKERS:
            yield from node.args if node.func.id == "zip" else node.args[:1]
        if isinstance(node, ast.Call) and isinstance(node.func, ast.Attribute) and node.func.attr == "join":
            yield node.args[0]


def defined_at_top(tree):
    for node in tree.body:
        if isinstance(node, (ast.FunctionDef, ast.ClassDef)):
            yield node.name
        if isinstance(node, ast.Assign):
            yield node.targets[0].id


def bound_in_defs(tree):
    for node in tree.body:
        if isinstance(node, (ast.FunctionDef, ast.ClassDef)):
            for part in node.body + ([node.args] if isinstance(node, ast.FunctionDef) else []):
                yield from bound_names(part)


class LanguageTest(unittest.TestCase):
    def setUp(self):
        self.texts = {path.name: path.read_text(encoding="utf-8") for path in package_files()}
        self.trees = {name: ast.parse(text) for name, text in self.texts.items()}

    def each_node(self):
        for name, tree in self.trees.items():
            for node in ast.walk(tree):
                yield f"{name}:{getattr(node, 'lineno', 0)}", node

    def test_files(self):
        self.assertIn("__init__.py", self.texts)
        for path in package_files():
            self.assertRegex(path.name, r"^[a-z0-9_]+\.py$")
            self.assertFalse(path.name.startswith(("test", "conftest")), path)

    def test_signs_and_lengths(self):
        for name, text in self.texts.items():
            self.assertRegex(text, r"\A[ -~\n]*\Z", name)
            self.assertLessEqual(len(text.splitlines()), 400, name)
            self.assertLessEqual(max([len(row) for row in text.splitlines()], default=0), 120, name)
        for place, node in self.each_node():
            if isinstance(node, ast.FunctionDef):
                self.assertLessEqual(node.end_lineno - node.lineno + 1, 40, place)

    def test_words_that_stand_nowhere(self):
        for name, text in self.texts.items():
            self.assertEqual(set(re.findall(r"\w+", text)) & WORDS_NOWHERE, set(), name)
            self.assertIsNone(re.search("dataclass|overload|contextmanager", text), name)

    def test_forms_that_are_not_used(self):
        for place, node in self.each_node():
            self.assertNotIsInstance(node, NODES_OUT, place)
            if isinstance(node, ast.Constant):
                self.assertIsInstance(node.value, (int, str, type(None)), place)
            if isinstance(node, (ast.FunctionDef, ast.ClassDef)):
                self.assertEqual(node.decorator_list, [], place)
            if isinstance(node, ast.arguments):
                self.assertEqual((node.vararg, node.kwarg, node.kwonlyargs, node.posonlyargs), (None, None, [], []))
            if isinstance(node, (ast.For, ast.While)):
                self.assertEqual(node.orelse, [], place)
            if isinstance(node, ast.Assign):
                self.assertEqual(len(node.targets), 1, place)
            if isinstance(node, ast.Try):
                self.assertEqual(node.finalbody, [], place)
            if isinstance(node, ast.ListComp):
                self.assertEqual(len(node.generators), 1, place)
                self.assertLessEqual(len(node.generators[0].ifs), 1, place)

    def test_is_stands_beside_none_and_truths_alone(self):
        for place, node in self.each_node():
            if isinstance(node, ast.Compare):
                for sign, right in zip(node.ops, node.comparators):
                    if isinstance(sign, (ast.Is, ast.IsNot)):
                        self.assertIsInstance(right, ast.Constant, place)

    def test_imports(self):
        for name, tree in self.trees.items():
            for node in ast.walk(tree):
                if isinstance(node, ast.ImportFrom):
                    self.assertIn(node, tree.body, name)
                    self.assertEqual(node.level, 0, name)
                    self.assertRegex(node.module, r"^(shimright\.\w+|__future__)$", name)
                    self.assertNotIn("*", [alias.name for alias in node.names], name)

    def imports(self, tree):
        return [node for node in tree.body if isinstance(node, ast.ImportFrom) and node.module != "__future__"]

    def test_imports_come_from_where_the_name_is_defined(self):
        for name, tree in self.trees.items():
            for node in self.imports(tree):
                defined = list(defined_at_top(self.trees[node.module.split(".")[1] + ".py"]))
                for alias in node.names:
                    self.assertIn(alias.name, defined, name)
                    self.assertIsNone(alias.asname, name)

    def test_no_two_files_draw_from_one_another(self):
        drawn = {name: {node.module.split(".")[1] + ".py" for node in self.imports(tree)}
                 for name, tree in self.trees.items()}
        for again in drawn:
            drawn = {name: others.union(*[drawn[other] for other in others]) for name, others in drawn.items()}
        for name, others in drawn.items():
            self.assertNotIn(name, others)

    def test_each_name_once(self):
        for name, tree in self.trees.items():
            imported = [alias.name for node in self.imports(tree) for alias in node.names]
            top = list(defined_at_top(tree)) + imported
            self.assertEqual(len(set(top)), len(top), name)
            classes = [node.name for node in tree.body if isinstance(node, ast.ClassDef)]
            self.assertEqual(set(bound_in_defs(tree)) & set(imported + classes), set(), name)

    def test_walked_at_once(self):
        for name, tree in self.trees.items():
            on_the_spot = list(walked_on_the_spot(tree))
            for node in ast.walk(tree):
                if is_walk(node):
                    self.assertIn(node, on_the_spot, f"{name}:{node.lineno}")

    def test_a_call_alone_stands_by_itself(self):
        for name, tree in self.trees.items():
            for node in ast.walk(tree):
                if isinstance(node, ast.Expr) and node is not tree.body[0]:
                    self.assertIsInstance(node.value, ast.Call, f"{name}:{node.lineno}")

    def test_pythons_own_names(self):
        others = set(dir(builtins)) - OWN_NAMES - {"True", "False", "None"}
        for place, node in self.each_node():
            if isinstance(node, ast.Name):
                self.assertNotIn(node.id, others, place)

    def test_bound_names(self):
        for name, tree in self.trees.items():
            methods = own_members([tree])
            for bound in bound_names(tree):
                if bound in methods:
                    continue
                self.assertFalse(bound.startswith("_"), (name, bound))
                self.assertNotIn(bound, dir(builtins), name)

    def test_methods(self):
        allowed = METHODS | own_members(self.trees.values()) | {"__init__"}
        for place, node in self.each_node():
            if isinstance(node, ast.Attribute):
                self.assertIn(node.attr, allowed, place)


if __name__ == "__main__":
    unittest.main()
