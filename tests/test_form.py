"""Whether the package keeps to the small part of Python it is written in, as far as a plain walk can see it.

It is told by the kinds of Python's own tree that may stand there; the numbers are those of the language's rules.
"""

import ast
import builtins
import pathlib
import re
import unittest

PACKAGE = pathlib.Path(__file__).resolve().parent.parent / "nextbyrule"
FILES = sorted(path for path in PACKAGE.rglob("*") if "__pycache__" not in path.parts)

NODES = """Module Expr Assign AugAssign If While For Return Break Continue Pass Raise Try ExceptHandler
FunctionDef ClassDef ImportFrom alias arguments arg Lambda keyword Call Attribute Subscript Slice Name Constant
List Tuple Dict Set ListComp comprehension IfExp BoolOp BinOp UnaryOp Compare JoinedStr FormattedValue
Load Store And Or Not UAdd USub Invert Add Sub Mult FloorDiv Mod Pow BitAnd BitOr BitXor LShift RShift
Eq NotEq Lt LtE Gt GtE Is IsNot In NotIn""".split()

# What the value of a name at a file's top is made of.
PLAIN = "Constant UnaryOp USub List Tuple Dict Name Load".split()

OWN_NAMES = """len range enumerate zip min max sum abs sorted reversed int str bool list tuple dict set frozenset
isinstance ord repr any all divmod Exception ValueError TypeError KeyError IndexError LookupError ZeroDivisionError
ArithmeticError OverflowError RuntimeError NotImplementedError AttributeError StopIteration""".split()

METHODS = """append clear copy count endswith extend find get index insert isalnum isalpha isdigit islower isspace
isupper items join keys ljust lower lstrip partition pop remove replace reverse rfind rjust rpartition rsplit rstrip
setdefault split splitlines startswith strip update upper values zfill bit_length""".split()

WORDS = """type typing typing_extensions enum Enum IntEnum StrEnum Flag IntFlag Generic Protocol ABC ABCMeta namedtuple
NamedTuple TypedDict TYPE_CHECKING abstractmethod""".split()

WORDS_WITHIN = ["dataclass", "overload", "contextmanager"]

UNUSED = """register mro elements open input version_info with_traceback add_note format format_map""".split()

WALKERS = "list tuple dict sorted sum any all enumerate zip min max".split()

KEYWORDS = {"sorted": ["key", "reverse"], "min": ["key", "default"], "max": ["key", "default"], "sum": ["start"],
            "enumerate": ["start"], "zip": ["strict"]}

UNDERSCORED = ["__init__", "__eq__", "__repr__", "__str__", "__len__"]


def walked(path, *kinds):
    return [node for node in ast.walk(ast.parse(path.read_text())) if isinstance(node, kinds)]


def each(*kinds):
    """Every step of these kinds in the package, each behind a text that tells where it stands."""
    return [(f"{path.name}:{getattr(node, 'lineno', 0)}", node) for path in FILES for node in walked(path, *kinds)]


def top_names(path):
    """What a file's top defines: functions, classes, plain values."""
    body = ast.parse(path.read_text()).body
    names = [node.name for node in body if isinstance(node, (ast.FunctionDef, ast.ClassDef))]
    return names + [node.targets[0].id for node in body if isinstance(node, ast.Assign)]


def bound_names(path):
    """Parameters, locals, functions, classes and imports: whatever a file gives a name to."""
    names = [node.id for node in walked(path, ast.Name) if isinstance(node.ctx, ast.Store)]
    names += [node.arg for node in walked(path, ast.arg)]
    names += [node.name for node in walked(path, ast.FunctionDef, ast.ClassDef)]
    names += [part.asname or part.name for part in walked(path, ast.alias)]
    return names + [node.name for node in walked(path, ast.ExceptHandler) if node.name]


def own_methods():
    found = [node for path in FILES for top in walked(path, ast.ClassDef) for node in top.body]
    return [node.name for node in found if isinstance(node, ast.FunctionDef)]


class FormTest(unittest.TestCase):
    def test_files(self):  # L1, L14
        self.assertIn("__init__.py", [path.name for path in FILES])
        for path in FILES:
            self.assertTrue(path.is_file())
            self.assertRegex(path.name, r"^([a-z][a-z0-9_]*|__init__|__main__)\.py$")

    def test_signs_and_sizes(self):  # L10, L14
        for path in FILES:
            lines = path.read_bytes().decode("ascii").split("\n")
            self.assertLessEqual(len(lines), 401)
            for line in lines:
                self.assertRegex(line, r"^[ -~]{0,120}$", path.name)
        for place, node in each(ast.FunctionDef):
            self.assertLessEqual(node.end_lineno - node.lineno + 1, 40, place)

    def test_words_that_stand_nowhere(self):  # L17
        for path in FILES:
            text = path.read_text()
            for word in WORDS:
                self.assertNotRegex(text, rf"\b{word}\b", path.name)
            for word in WORDS_WITHIN:
                self.assertNotIn(word, text, path.name)

    def test_the_top_of_a_file(self):  # L3, L15
        for path in FILES:
            body = ast.parse(path.read_text()).body
            self.assertIsInstance(body[0], ast.Expr, path.name)
            for node in body[1:]:
                self.assertIsInstance(node, (ast.ImportFrom, ast.FunctionDef, ast.ClassDef, ast.Assign), path.name)
            for node in body:
                if isinstance(node, ast.Assign):
                    kinds = [part.__class__.__name__ for part in ast.walk(node.value)]
                    self.assertLessEqual(set(kinds), set(PLAIN), path.name)
            names = top_names(path) + [part.name for part in walked(path, ast.alias)]
            self.assertEqual(sorted(names), sorted(set(names)))

    def test_kinds_of_steps(self):  # L4, L6, L7
        for place, node in each(ast.AST):
            self.assertIn(node.__class__.__name__, NODES, place)

    def test_steps_more_closely(self):  # L6, L7
        for place, node in each(ast.Assign):
            self.assertEqual(len(node.targets), 1, place)
        for place, node in each(ast.For, ast.While):
            self.assertEqual(node.orelse, [], place)
        for place, node in each(ast.Try):
            self.assertEqual(node.finalbody, [], place)
        for place, node in each(ast.ListComp):
            self.assertEqual(len(node.generators), 1, place)
            self.assertLessEqual(len(node.generators[0].ifs), 1, place)
        for place, node in each(ast.Constant):
            self.assertIsInstance(node.value, (int, str, None.__class__), place)

    def test_functions(self):  # L4, L5
        for place, node in each(ast.FunctionDef, ast.ClassDef):
            self.assertEqual(node.decorator_list, [], place)
        for place, node in each(ast.arguments):
            self.assertEqual([node.vararg, node.kwarg, node.kwonlyargs, node.posonlyargs], [None, None, [], []], place)

    def test_class_bodies(self):  # L5
        for place, node in each(ast.ClassDef):
            self.assertLessEqual(len(node.bases), 1, place)
            for part in node.body:
                self.assertIsInstance(part, (ast.FunctionDef, ast.Pass), place)

    def test_imports(self):  # L2, L16
        defined = {"nextbyrule." + path.stem: top_names(path) for path in FILES if not path.stem.startswith("__")}
        for place, node in each(ast.ImportFrom):
            self.assertEqual(node.level, 0, place)
            self.assertIn(node.module, defined, place)
            for part in node.names:
                self.assertIn(part.name, defined[node.module], place)

    def test_no_files_draw_from_one_another(self):  # L16
        drawn = {"nextbyrule." + path.stem: [node.module for node in walked(path, ast.ImportFrom)] for path in FILES}
        while drawn:
            free = [name for name in drawn if not set(drawn[name]) & set(drawn)]
            self.assertNotEqual(free, [], drawn)
            drawn = {name: drawn[name] for name in drawn if name not in free}

    def test_bound_names(self):  # L8, L12, L15, L17
        for path in FILES:
            for name in bound_names(path):
                if name not in UNDERSCORED:
                    self.assertRegex(name, r"^[A-Za-z][A-Za-z0-9_]*$", path.name)
                    self.assertNotIn(name, dir(builtins) + UNUSED, path.name)

    def test_locals_are_not_called_like_what_stands_at_the_top(self):  # L15
        for path in FILES:
            top = top_names(path) + [part.name for part in walked(path, ast.alias)]
            for place in walked(path, ast.FunctionDef):
                names = [node.arg for node in ast.walk(place) if isinstance(node, ast.arg)]
                names += [node.id for node in ast.walk(place) if isinstance(node, ast.Name)
                          and isinstance(node.ctx, ast.Store)]
                self.assertEqual(set(names) & set(top), set(), (path.name, place.name))

    def test_walked_at_once(self):  # L23
        walks = ["zip", "enumerate", "reversed", "range", "items", "keys", "values"]
        for path in FILES:
            tree = ast.parse(path.read_text())
            free = [node.iter for node in ast.walk(tree) if isinstance(node, (ast.For, ast.comprehension))]
            for node in ast.walk(tree):
                if isinstance(node, ast.Call) and ast.unparse(node.func) in WALKERS:
                    free += node.args[:1]
            for node in ast.walk(tree):
                if isinstance(node, ast.Call) and ast.unparse(node.func).split(".")[-1] in walks:
                    self.assertIn(node, free, f"{path.name}:{node.lineno}")

    def test_keywords(self):  # L22
        for place, node in each(ast.Call):
            for keyword in node.keywords:
                allowed = KEYWORDS.get(ast.unparse(node.func), [])
                self.assertIn(keyword.arg, allowed, place)

    def test_names_read(self):  # L8
        for path in FILES:
            known = OWN_NAMES + bound_names(path)
            for node in walked(path, ast.Name):
                self.assertIn(node.id, known, path.name)

    def test_methods(self):  # L17, L25
        known = METHODS + own_methods() + ["__init__"]
        for place, node in each(ast.Call):
            if isinstance(node.func, ast.Attribute):
                self.assertIn(node.func.attr, known, place)
        for place, node in each(ast.Attribute):
            self.assertNotIn(node.attr, UNUSED, place)

    def test_errors_taken(self):  # L6, L19
        for place, node in each(ast.ExceptHandler):
            self.assertIsNotNone(node.type, place)
            names = [part.id for part in ast.walk(node.type) if isinstance(part, ast.Name)]
            self.assertEqual(set(names) & {"Exception", "TypeError"}, set(), place)

    def test_is_beside_none_and_truths_alone(self):  # L20
        for place, node in each(ast.Compare):
            for sign, right in zip(node.ops, node.comparators):
                if isinstance(sign, (ast.Is, ast.IsNot)):
                    self.assertIn(ast.unparse(right), ["None", "True", "False"], place)

    def test_powers_and_texts(self):  # L27
        for place, node in each(ast.BinOp):
            if isinstance(node.op, ast.Pow):
                self.assertIn(ast.unparse(node.right), [str(power) for power in range(65)], place)
        for place, node in each(ast.Constant):
            if isinstance(node.value, str):
                self.assertNotIn("%", node.value, place)
        for path in FILES:
            self.assertIsNone(re.search(r"\\[^nt\\'\"]", path.read_text()), path.name)


if __name__ == "__main__":
    unittest.main()
