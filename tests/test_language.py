"""The package keeps to the small part of Python that it is written in, as far as this can be seen from its form."""

import ast
import builtins
import re
import unittest
from pathlib import Path

PACKAGE = Path(__file__).resolve().parent.parent / "friezeyard"
FORMS = """
    Module FunctionDef ClassDef arguments arg Assign AugAssign If While For Return Break Continue Pass Raise Try
    ExceptHandler Expr ImportFrom alias Name Constant List Tuple Dict Set BinOp UnaryOp BoolOp Compare IfExp Call
    keyword Attribute Subscript Slice ListComp comprehension JoinedStr FormattedValue Lambda Load Store Add Sub Mult
    FloorDiv Mod Pow LShift RShift BitOr BitXor BitAnd Invert Not UAdd USub And Or Eq NotEq Lt LtE Gt GtE Is IsNot In
    NotIn""".split()
OWN_NAMES = """
    len range enumerate zip min max sum abs sorted reversed int str bool list tuple dict set frozenset isinstance ord
    repr any all divmod Exception ValueError TypeError KeyError IndexError LookupError ZeroDivisionError
    ArithmeticError OverflowError RuntimeError NotImplementedError AttributeError StopIteration""".split()
ATTRIBUTES = """
    append clear copy count endswith extend find get index insert isalnum isalpha isdigit islower isspace isupper items
    join keys ljust lower lstrip partition pop remove replace reverse rfind rjust rpartition rsplit rstrip setdefault
    split splitlines startswith strip update upper values zfill bit_length add discard title""".split()
WALKED = ["zip", "enumerate", "reversed", "range", "items", "keys", "values"]
WALKERS = ["list", "tuple", "dict", "sorted", "sum", "any", "all", "enumerate", "zip", "join"]
IS_BESIDE = ["None", "True", "False"]
TWO_UNDERSCORES = ["__init__", "__eq__", "__repr__", "__str__", "__len__"]
WORDS = re.compile(r"\b(type|typing|typing_extensions|enum|Enum|IntEnum|StrEnum|Flag|IntFlag|Generic|Protocol|ABC"
                   r"|ABCMeta|namedtuple|NamedTuple|TypedDict|TYPE_CHECKING|abstractmethod)\b"
                   r"|dataclass|overload|contextmanager")
FOREIGN = [name for kind in (str, int, list, dict, set, bytes, tuple) for name in dir(kind) if name not in ATTRIBUTES]


def is_call_or_head(node, tree):
    if isinstance(node.value, ast.Call):
        return True
    return node is tree.body[0] and isinstance(node.value, ast.Constant) and isinstance(node.value.value, str)


def fault_of_node(node, tree):
    kind = type(node).__name__
    if kind not in FORMS:
        return f"the form {kind}"
    if kind == "Expr" and not is_call_or_head(node, tree):
        return "a value by itself"
    if kind == "Constant" and not isinstance(node.value, (int, str, type(None))):
        return "a value of another kind"
    if kind == "Assign" and len(node.targets) != 1:
        return "several targets"
    if kind in ("For", "While") and node.orelse or kind == "Try" and node.finalbody:
        return "else behind a loop, or finally"
    if kind == "ListComp" and (len(node.generators) != 1 or len(node.generators[0].ifs) > 1):
        return "a comprehension of several walks"
    if kind == "arguments" and (node.vararg or node.kwarg or node.kwonlyargs or node.posonlyargs):
        return "no plain parameters"
    if kind == "FunctionDef" and (node.decorator_list or node.end_lineno - node.lineno >= 40):
        return "a function that is decorated or too long"
    if kind == "ClassDef" and (node.decorator_list or node.keywords or len(node.bases) > 1):
        return "no plain class"
    if kind == "BinOp" and isinstance(node.op, ast.Pow) and not isinstance(node.right, ast.Constant):
        return "a power that is not written out"
    if kind == "Compare" and [op for op in node.ops if isinstance(op, (ast.Is, ast.IsNot))]:
        if not [side for side in [node.left] + node.comparators if repr(getattr(side, "value", 0)) in IS_BESIDE]:
            return "is beside another thing than None, True and False"
    if kind == "ClassDef" and [part for part in node.body if not isinstance(part, (ast.FunctionDef, ast.Pass))]:
        return "a class with more than methods"
    return fault_of_name(node)


def fault_of_name(node):
    names = [getattr(node, field, None) for field in ("id", "arg", "attr", "name")]
    for name in [name for name in names if isinstance(name, str)]:
        if name.startswith("_") and name not in TWO_UNDERSCORES:
            return f"the name {name}"
    if isinstance(node, ast.Name) and hasattr(builtins, node.id):
        if node.id not in OWN_NAMES or not isinstance(node.ctx, ast.Load):
            return f"the name {node.id}"
    if isinstance(node, ast.arg) and hasattr(builtins, node.arg):
        return f"the parameter {node.arg}"
    if isinstance(node, ast.Attribute) and node.attr in FOREIGN and node.attr not in TWO_UNDERSCORES:
        return f"the method {node.attr}"
    return None


def defined(tree):
    names = []
    for part in tree.body:
        if isinstance(part, (ast.FunctionDef, ast.ClassDef)):
            names.append(part.name)
        elif isinstance(part, ast.Assign):
            names.append(part.targets[0].id)
    return names


def imports_of(tree):
    return [node for node in ast.walk(tree) if isinstance(node, ast.ImportFrom)]


def locals_of(tree):
    """The parameters, and the names given a value within a def."""
    names = [node.arg for node in ast.walk(tree) if isinstance(node, ast.arg)]
    for part in [part for part in ast.walk(tree) if isinstance(part, ast.FunctionDef)]:
        names += [node.id for node in ast.walk(part) if isinstance(node, ast.Name) and isinstance(node.ctx, ast.Store)]
    return names


def walked(tree):
    """The values that are walked on the spot."""
    found = [node.iter for node in ast.walk(tree) if isinstance(node, (ast.For, ast.comprehension))]
    for node in [node for node in ast.walk(tree) if isinstance(node, ast.Call) and node.args]:
        name = getattr(node.func, "id", getattr(node.func, "attr", None))
        if name in WALKERS or name in ("min", "max") and len(node.args) == 1:
            found += node.args if name == "zip" else node.args[:1]
    return found


class LanguageTest(unittest.TestCase):
    def setUp(self):
        self.files = sorted(path for path in PACKAGE.rglob("*") if path.is_file() and "__pycache__" not in path.parts)
        self.texts = {path.stem: path.read_bytes().decode("utf-8") for path in self.files}
        self.trees = {stem: ast.parse(text) for stem, text in self.texts.items()}

    def test_files(self):
        self.assertIn("__init__", self.texts)
        for path in self.files:
            self.assertEqual(path.parent, PACKAGE)
            self.assertRegex(path.name, r"\A[a-z0-9_]+\.py\Z")

    def test_rows_and_signs(self):
        for stem, text in self.texts.items():
            rows = text.split("\n")
            self.assertLessEqual(len(rows), 401, stem)
            for number, row in enumerate(rows, start=1):
                self.assertRegex(row, r"\A[ -~]{0,120}\Z", (stem, number))
                self.assertIsNone(WORDS.search(row), (stem, number))

    def test_forms_and_names(self):
        for stem, tree in self.trees.items():
            for node in ast.walk(tree):
                self.assertIsNone(fault_of_node(node, tree), (stem, getattr(node, "lineno", None)))

    def test_names_at_the_top_are_bound_once(self):
        for stem, tree in self.trees.items():
            names = defined(tree) + [alias.name for node in imports_of(tree) for alias in node.names]
            self.assertEqual(len(names), len(set(names)), stem)

    def test_no_parameter_and_no_local_is_called_like_an_import_or_a_class(self):
        for stem, tree in self.trees.items():
            taken = [alias.name for node in imports_of(tree) for alias in node.names]
            taken += [part.name for part in tree.body if isinstance(part, ast.ClassDef)]
            self.assertFalse(set(taken) & set(locals_of(tree)), stem)

    def test_what_is_to_be_walked_at_once_is(self):
        for stem, tree in self.trees.items():
            for node in [node for node in ast.walk(tree) if isinstance(node, ast.Call)]:
                if getattr(node.func, "id", getattr(node.func, "attr", None)) in WALKED:
                    self.assertIn(node, walked(tree), (stem, node.lineno))

    def test_no_name_is_a_method_in_one_class_and_a_value_in_another(self):
        nodes = [node for tree in self.trees.values() for node in ast.walk(tree)]
        classes = [node for node in nodes if isinstance(node, ast.ClassDef)]
        methods = [part.name for node in classes for part in node.body if isinstance(part, ast.FunctionDef)]
        values = [node.attr for node in nodes if isinstance(node, ast.Attribute) and isinstance(node.ctx, ast.Store)]
        self.assertFalse(set(methods) & set(values))
        for node in classes:
            own = [part.name for part in node.body if isinstance(part, ast.FunctionDef)]
            self.assertEqual(len(own), len(set(own)), node.name)

    def test_texts_hold_no_percent_sign_and_no_odd_escape(self):
        for stem, text in self.texts.items():
            self.assertNotRegex(text, r"\\[^nt\\\"']", stem)
            for node in ast.walk(self.trees[stem]):
                if isinstance(node, ast.Constant) and isinstance(node.value, str):
                    self.assertNotIn("%", node.value, (stem, node.lineno))

    def test_lists_and_dicts_at_the_top_hold_no_list_and_no_dict(self):
        for stem, tree in self.trees.items():
            for part in [part for part in tree.body if isinstance(part, ast.Assign)]:
                inner = [node for node in ast.walk(part.value) if isinstance(node, (ast.List, ast.Dict))]
                self.assertLessEqual(len(inner), 1, (stem, part.lineno))

    def test_imports_are_the_packages_own_from_the_defining_file(self):
        for stem, tree in self.trees.items():
            for node in imports_of(tree):
                self.assertIn(node, tree.body, stem)
                self.assertEqual((node.level, node.module.split(".")[0]), (0, "friezeyard"), stem)
                source = node.module.split(".")[1]
                for alias in node.names:
                    self.assertIsNone(alias.asname, stem)
                    self.assertIn(alias.name, defined(self.trees[source]), (stem, alias.name))

    def test_no_two_files_draw_from_one_another(self):
        left = {stem: {node.module.split(".")[1] for node in imports_of(tree)} for stem, tree in self.trees.items()}
        while left:
            free = [stem for stem, sources in left.items() if not sources & set(left)]
            self.assertTrue(free, sorted(left))
            for stem in free:
                left.pop(stem)


if __name__ == "__main__":
    unittest.main()
