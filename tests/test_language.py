"""The package keeps to its small part of Python; the rules' numbers stand in the messages."""

import ast
import pathlib
import re
import unittest

PACKAGE = pathlib.Path(__file__).resolve().parent.parent / "fundrings"
OWN_NAMES = """len range enumerate zip min max sum abs sorted reversed int str bool list tuple dict set frozenset
isinstance ord repr any all divmod Exception ValueError TypeError KeyError IndexError LookupError ZeroDivisionError
ArithmeticError OverflowError RuntimeError NotImplementedError AttributeError StopIteration""".split()
METHODS = """append clear copy count endswith extend find get index insert isalnum isalpha isdigit islower isspace
isupper items join keys ljust lower lstrip partition pop remove replace reverse rfind rjust rpartition rsplit rstrip
setdefault split splitlines startswith strip update upper values zfill bit_length""".split()
WORDS = """type typing typing_extensions enum Enum IntEnum StrEnum Flag IntFlag Generic Protocol ABC ABCMeta namedtuple
NamedTuple TypedDict TYPE_CHECKING abstractmethod""".split()
NODES = """Module Expr Constant ImportFrom alias FunctionDef arguments arg ClassDef Assign AugAssign If While For
Return Break Continue Pass Raise Try ExceptHandler Call keyword Attribute Subscript Slice Name Load Store List Tuple
Dict BinOp UnaryOp BoolOp Compare IfExp Lambda ListComp comprehension JoinedStr FormattedValue
Add Sub Mult FloorDiv Mod Pow LShift RShift BitOr BitXor BitAnd Invert USub UAdd Not And Or
Eq NotEq Lt LtE Gt GtE Is IsNot In NotIn""".split()


def package_files():
    return sorted(PACKAGE.rglob("*.py"))


def parsed():
    return [(path.name, ast.parse(path.read_text("ascii"))) for path in package_files()]


def plain(node, functions):
    """Whether a value at a file's top is a plain one (L3)."""
    if isinstance(node, ast.UnaryOp):
        return isinstance(node.op, ast.USub) and isinstance(node.operand, ast.Constant)
    if isinstance(node, (ast.List, ast.Tuple)):
        return all(plain(part, functions) for part in node.elts)
    if isinstance(node, ast.Dict):
        return all(plain(part, functions) for part in node.keys + node.values)
    if isinstance(node, ast.Name):
        return node.id in functions
    return isinstance(node, ast.Constant) and (node.value is None or isinstance(node.value, (int, str)))


class Language(unittest.TestCase):
    def test_files(self):
        self.assertIn("house.py", [path.name for path in package_files()])
        for path in PACKAGE.rglob("*"):
            if "__pycache__" not in path.parts:
                self.assertRegex(path.name, r"^[a-z0-9_]+(\.py)?$", "L1, L14")
                self.assertTrue(path.is_dir() or path.suffix == ".py", f"L1: {path}")

    def test_sizes_and_signs(self):
        for path in package_files():
            text = path.read_bytes().decode("ascii")
            self.assertRegex(text, r"\A[ -~\n]*\Z", f"L14: {path}")
            rows = text.split("\n")
            self.assertLessEqual(len(rows), 400, f"L10: {path}")
            self.assertLessEqual(max(len(row) for row in rows), 120, f"L10: {path}")
            for word in re.findall(r"\w+", text):
                self.assertNotIn(word, WORDS, f"L17: {path}")
                self.assertNotRegex(word, "dataclass|overload|contextmanager", f"L17: {path}")

    def test_functions_are_short(self):
        for name, tree in parsed():
            for node in ast.walk(tree):
                if isinstance(node, ast.FunctionDef):
                    self.assertLessEqual(node.end_lineno - node.lineno + 1, 40, f"L10: {name} {node.name}")
                    args = node.args
                    self.assertFalse(args.vararg or args.kwarg or args.kwonlyargs or node.decorator_list, f"L4: {name}")

    def test_statements_and_expressions(self):
        for name, tree in parsed():
            for node in ast.walk(tree):
                self.assertIn(node.__class__.__name__, NODES, f"L6, L7: {name} {getattr(node, 'lineno', '')}")
                if isinstance(node, ast.Constant):
                    self.assertIsInstance(node.value, (int, str, type(None)), f"L7: {name}")
                if isinstance(node, ast.Assign):
                    self.assertEqual(len(node.targets), 1, f"L6: {name} {node.lineno}")
                if isinstance(node, ast.ListComp):
                    self.assertTrue(len(node.generators) == 1 and len(node.generators[0].ifs) <= 1, f"L7: {name}")
                if isinstance(node, (ast.For, ast.While)):
                    self.assertFalse(node.orelse, f"L6: {name} {node.lineno}")

    def test_tops(self):
        for name, tree in parsed():
            functions = []
            bound = []
            for place, node in enumerate(tree.body):
                if isinstance(node, ast.Assign):
                    self.assertTrue(plain(node.value, functions), f"L3: {name} {node.lineno}")
                    bound.append(node.targets[0].id)
                elif isinstance(node, ast.Expr):
                    self.assertTrue(place == 0 and isinstance(node.value, ast.Constant), f"L3: {name} {node.lineno}")
                elif isinstance(node, ast.ImportFrom):
                    self.assertTrue(node.level == 0 and node.module.startswith("fundrings."), f"L2: {name}")
                    bound.extend(part.name for part in node.names)
                else:
                    self.assertIsInstance(node, (ast.FunctionDef, ast.ClassDef), f"L3: {name} {node.lineno}")
                    functions.append(node.name)
                    bound.append(node.name)
            self.assertEqual(len(bound), len(set(bound)), f"L15: {name}")

    def test_names(self):
        builtin = set(dir(__builtins__) if not isinstance(__builtins__, dict) else __builtins__)
        for name, tree in parsed():
            for node in ast.walk(tree):
                if isinstance(node, ast.Name):
                    self.assertRegex(node.id, r"^[A-Za-z]\w*$", f"L12: {name} {node.lineno}")
                    if node.id in builtin:
                        self.assertIn(node.id, OWN_NAMES, f"L8: {name} {node.lineno}")
                        self.assertIsInstance(node.ctx, ast.Load, f"L15: {name} {node.lineno}")
                if isinstance(node, ast.arg):
                    self.assertNotIn(node.arg, builtin, f"L15: {name} {node.lineno}")

    def test_methods(self):
        own = {node.name for name, tree in parsed() for node in ast.walk(tree) if isinstance(node, ast.FunctionDef)}
        for name, tree in parsed():
            for node in ast.walk(tree):
                if isinstance(node, ast.Call) and isinstance(node.func, ast.Attribute):
                    self.assertIn(node.func.attr, own.union(METHODS), f"L25: {name} {node.lineno}")


if __name__ == "__main__":
    unittest.main()
