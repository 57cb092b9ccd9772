"""Holds the package to the rules of its language that a walk through its syntax can see."""

import ast
import builtins
import pathlib
import re
import unittest

PACKAGE = pathlib.Path(__file__).resolve().parent.parent / "whisperwall"

OWN_NAMES = set(
    "len range enumerate zip min max sum abs sorted reversed int str bool list tuple dict set frozenset isinstance "
    "ord repr any all divmod Exception ValueError KeyError IndexError LookupError ZeroDivisionError ArithmeticError "
    "OverflowError RuntimeError NotImplementedError StopIteration".split()
)
METHODS = set(
    "append clear copy count endswith extend find get index insert isalnum isalpha isdigit islower isspace isupper "
    "items join keys ljust lower lstrip partition pop remove replace reverse rfind rjust rpartition rsplit rstrip "
    "setdefault split splitlines startswith strip update upper values zfill bit_length".split()
)
NOWHERE = (
    "type typing typing_extensions enum Enum IntEnum StrEnum Flag IntFlag Generic Protocol ABC ABCMeta namedtuple "
    "NamedTuple TypedDict TYPE_CHECKING abstractmethod".split()
)
NOWHERE_WITHIN = ("dataclass", "overload", "contextmanager")
NODES = set(
    "Module FunctionDef arguments arg Return Assign AugAssign For While If Expr Pass Break Continue ImportFrom alias "
    "BoolOp BinOp UnaryOp IfExp Dict List Tuple ListComp comprehension Compare Call Attribute Subscript Slice Name "
    "Constant Lambda keyword Load Store And Or Not Add Sub Mult FloorDiv Mod USub Eq NotEq Lt LtE Gt GtE Is IsNot "
    "In NotIn".split()
)


WALKED = ("zip", "enumerate", "reversed", "range", "items", "keys", "values")
WALKING = ("list", "tuple", "dict", "sorted", "sum", "any", "all", "enumerate", "zip", "min", "max")


def called(node):
    """The name of the function or method that a node calls, or None."""
    if not isinstance(node, ast.Call):
        return None
    return node.func.attr if isinstance(node.func, ast.Attribute) else getattr(node.func, "id", None)


def names_bound_at_the_top(tree):
    defs = [part.name for part in tree.body if isinstance(part, ast.FunctionDef)]
    return defs + [part.targets[0].id for part in tree.body if isinstance(part, ast.Assign)]


def files():
    return sorted(PACKAGE.glob("*.py"))


class TestLanguage(unittest.TestCase):
    def test_files(self):
        found = [path.name for path in PACKAGE.iterdir() if path.name != "__pycache__"]
        self.assertIn("__init__.py", found)
        for name in found:
            self.assertRegex(name, r"\A(__init__|[a-z][a-z0-9_]*)\.py\Z")

    def test_signs_sizes_and_words(self):
        for path in files():
            text = path.read_bytes().decode("utf-8")
            self.assertEqual(re.findall(r"[^ -~\n]", text), [], path.name)
            self.assertLessEqual(len(text.splitlines()), 400)
            self.assertLessEqual(max(len(line) for line in text.splitlines()), 120)
            words = re.findall(r"\w+", text)
            self.assertEqual([word for word in words if word in NOWHERE], [], path.name)
            self.assertEqual([part for part in NOWHERE_WITHIN if part in text], [], path.name)

    def test_nodes(self):
        for path in files():
            for node in ast.walk(ast.parse(path.read_text())):
                where = f"{path.name}, line {getattr(node, 'lineno', '?')}: {ast.dump(node)}"
                self.assertIn(type(node).__name__, NODES, where)
                check = getattr(self, "check_" + type(node).__name__, None)
                if check:
                    check(node, where)

    def test_imports(self):
        drawn = {}
        for path in files():
            tree = ast.parse(path.read_text())
            drawn[path.stem] = set()
            for row in [part for part in tree.body if isinstance(part, ast.ImportFrom)]:
                source = row.module.removeprefix("whisperwall.")
                drawn[path.stem].add(source)
                defined = names_bound_at_the_top(ast.parse((PACKAGE / (source + ".py")).read_text()))
                self.assertEqual([part.name for part in row.names if part.name not in defined], [], path.name)
        while drawn:
            free = [name for name in drawn if not drawn[name] & set(drawn)]
            self.assertNotEqual(free, [], "files that draw from one another")
            for name in free:
                del drawn[name]

    def test_locals_are_not_called_like_imports(self):
        for path in files():
            tree = ast.parse(path.read_text())
            imported = {part.name for row in tree.body if isinstance(row, ast.ImportFrom) for part in row.names}
            for node in ast.walk(tree):
                if isinstance(node, ast.arg):
                    self.assertNotIn(node.arg, imported, path.name)
                elif isinstance(node, ast.Name) and isinstance(node.ctx, ast.Store):
                    self.assertNotIn(node.id, imported, path.name)

    def test_sets_and_walks_are_not_kept(self):
        for path in files():
            for outer in ast.walk(ast.parse(path.read_text())):
                for inner in ast.iter_child_nodes(outer):
                    if called(inner) in ("set", "frozenset"):
                        asked = called(outer) in ("sorted", "len") or isinstance(outer, (ast.Compare, ast.BinOp))
                        self.assertTrue(asked, f"{path.name}, line {inner.lineno}")
                    elif called(inner) in WALKED:
                        walked = isinstance(outer, (ast.For, ast.comprehension)) and outer.iter is inner
                        first = called(outer) in WALKING and outer.args[0] is inner
                        self.assertTrue(walked or first, f"{path.name}, line {inner.lineno}")

    def check_Module(self, node, where):
        self.assertTrue(ast.get_docstring(node), where)
        bound = []
        for part in node.body[1:]:
            self.assertIsInstance(part, (ast.ImportFrom, ast.FunctionDef, ast.Assign), where)
            if isinstance(part, ast.FunctionDef):
                bound.append(part.name)
            elif isinstance(part, ast.Assign):
                bound.append(part.targets[0].id)
        self.assertEqual(sorted(bound), sorted(set(bound)))

    def check_ImportFrom(self, node, where):
        self.assertEqual(node.level, 0, where)
        self.assertTrue(node.module.startswith("whisperwall."), where)
        self.assertEqual([part.name for part in node.names if part.name == "*" or part.asname], [], where)

    def check_FunctionDef(self, node, where):
        self.check_name(node.name, where)
        self.assertLessEqual(node.end_lineno - node.lineno + 1, 40, where)
        self.assertEqual(node.decorator_list, [], where)
        self.assertIs(node.returns, None, where)

    def check_arguments(self, node, where):
        self.assertEqual((node.vararg, node.kwarg, node.kwonlyargs, node.posonlyargs), (None, None, [], []), where)

    def check_arg(self, node, where):
        self.check_name(node.arg, where)
        self.assertIs(node.annotation, None, where)

    def check_Assign(self, node, where):
        self.assertEqual(len(node.targets), 1, where)

    def check_Expr(self, node, where):
        docstring = isinstance(node.value, ast.Constant) and node.lineno == 1
        self.assertTrue(docstring or isinstance(node.value, ast.Call), where)

    def check_For(self, node, where):
        self.assertEqual(node.orelse, [], where)

    def check_While(self, node, where):
        self.assertEqual(node.orelse, [], where)

    def check_ListComp(self, node, where):
        self.assertEqual(len(node.generators), 1, where)
        self.assertLessEqual(len(node.generators[0].ifs), 1, where)

    def check_Compare(self, node, where):
        if any(isinstance(sign, (ast.Is, ast.IsNot)) for sign in node.ops):
            self.assertTrue(any(getattr(side, "value", 0) in (None, True, False) for side in node.comparators), where)

    def check_Name(self, node, where):
        if isinstance(node.ctx, ast.Store):
            self.check_name(node.id, where)
        elif hasattr(builtins, node.id):
            self.assertIn(node.id, OWN_NAMES, where)

    def check_Attribute(self, node, where):
        self.assertIn(node.attr, METHODS, where)

    def check_Constant(self, node, where):
        self.assertIn(type(node.value), (int, str, bool, type(None)), where)
        if isinstance(node.value, str):
            self.assertNotIn("%", node.value, where)

    def check_name(self, name, where):
        self.assertRegex(name, r"\A[A-Za-z][A-Za-z0-9_]*\Z", where)
        self.assertFalse(hasattr(builtins, name), where)


if __name__ == "__main__":
    unittest.main()
