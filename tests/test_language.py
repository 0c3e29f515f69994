"""The package keeps to the small part of Python that it is written in, as far as a walk over its files shows it."""

import ast
import builtins
import os
import re
import unittest

PACKAGE = os.path.join(os.path.dirname(os.path.dirname(os.path.abspath(__file__))), "cardreader")

NODES = """Module Expr Assign AugAssign If While For Return Break Continue Pass Raise Try ExceptHandler FunctionDef ClassDef
ImportFrom alias arguments arg Constant List Tuple Dict Set BinOp BoolOp UnaryOp Compare IfExp Call Attribute Subscript Slice
ListComp comprehension JoinedStr FormattedValue Name Load Store Lambda keyword And Or Not USub UAdd Invert Add Sub Mult FloorDiv
Mod Pow BitAnd BitOr BitXor LShift RShift Eq NotEq Lt LtE Gt GtE Is IsNot In NotIn""".split()
OWN_NAMES = """len range enumerate zip min max sum abs sorted reversed int str bool list tuple dict set frozenset isinstance ord
repr any all divmod Exception ValueError TypeError KeyError IndexError LookupError ZeroDivisionError ArithmeticError
OverflowError RuntimeError NotImplementedError AttributeError StopIteration""".split()
METHODS = """append clear copy count endswith extend find get index insert isalnum isalpha isdigit islower isspace isupper items
join keys ljust lower lstrip partition pop remove replace reverse rfind rjust rpartition rsplit rstrip setdefault split splitlines
startswith strip update upper values zfill bit_length""".split()
VALUES_LIKE_METHODS = "count index title find get join lower upper split strip copy add".split()
NOT_USED = "register mro elements open input version_info with_traceback add_note format format_map args encode".split()
NOT_WRITTEN = r"\b(type|typing|typing_extensions|[eE]num|IntEnum|StrEnum|Flag|IntFlag|Generic|Protocol|ABC|ABCMeta|namedtuple" \
    r"|NamedTuple|TypedDict|TYPE_CHECKING|abstractmethod)\b|dataclass|overload|contextmanager"
FILE_NAMES_NOT_USED = "test tests testing site conftest sitecustomize usercustomize".split() + dir(builtins)


def sources():
    found = {}
    for name in sorted(os.listdir(PACKAGE)):
        if name != "__pycache__":
            with open(os.path.join(PACKAGE, name), encoding="utf-8") as file:
                found[name] = file.read()
    return found


def names_of_values():
    return {name for kind in (str, int, list, dict, set, bytes, tuple) for name in dir(kind)}


def bound_names(tree):
    for node in ast.walk(tree):
        if isinstance(node, (ast.FunctionDef, ast.ClassDef)):
            yield node.name
        elif isinstance(node, ast.arg):
            yield node.arg
        elif isinstance(node, ast.Name) and isinstance(node.ctx, ast.Store):
            yield node.id


def is_plain_value(node):
    try:
        ast.literal_eval(node)
    except ValueError:
        return False
    return True


class Language(unittest.TestCase):
    def setUp(self):
        self.sources = sources()
        self.trees = {name: ast.parse(text) for name, text in self.sources.items()}

    def nodes(self, *kinds):
        return [(name, node) for name, tree in self.trees.items() for node in ast.walk(tree) if isinstance(node, kinds)]

    def test_files(self):
        self.assertIn("__init__.py", self.sources)
        for name in self.sources:
            self.assertRegex(name, r"^([a-z][a-z0-9_]*|__init__|__main__)\.py$")
            self.assertNotIn(name[:-3], FILE_NAMES_NOT_USED)

    def test_signs_and_words(self):
        for name, text in self.sources.items():
            self.assertRegex(text, r"\A[ -~\n]*\Z", name)
            self.assertIsNone(re.search(NOT_WRITTEN, text), name)

    def test_sizes(self):
        for name, text in self.sources.items():
            rows = text.split("\n")
            self.assertLessEqual(len(rows), 401, name)
            self.assertLessEqual(max(len(row) for row in rows), 120, name)
        for name, node in self.nodes(ast.FunctionDef):
            self.assertLessEqual(node.end_lineno - node.lineno + 1, 40, f"{name} {node.name}")

    def test_nodes(self):
        for name, node in self.nodes(ast.AST):
            self.assertIn(type(node).__name__, NODES, f"{name} {getattr(node, 'lineno', 0)}")

    def test_statements(self):
        for name, node in self.nodes(ast.Assign):
            self.assertEqual(len(node.targets), 1, f"{name} {node.lineno}")
            self.assertNotIsInstance(node.targets[0], (ast.Tuple, ast.List), f"{name} {node.lineno}")
        for name, node in self.nodes(ast.While, ast.For):
            self.assertEqual(node.orelse, [], f"{name} {node.lineno}")
        for name, node in self.nodes(ast.Try):
            self.assertEqual(node.finalbody, [], f"{name} {node.lineno}")
        for name, node in self.nodes(ast.ListComp):
            self.assertEqual(len(node.generators), 1, f"{name} {node.lineno}")
            self.assertLessEqual(len(node.generators[0].ifs), 1, f"{name} {node.lineno}")

    def test_constants(self):
        for name, node in self.nodes(ast.Constant):
            self.assertIn(type(node.value), (int, str, bool, type(None)), f"{name} {node.lineno}")
            if isinstance(node.value, str):
                self.assertNotIn("%", node.value, f"{name} {node.lineno}")

    def test_is(self):
        for name, node in self.nodes(ast.Compare):
            for operator, right in zip(node.ops, node.comparators):
                if isinstance(operator, (ast.Is, ast.IsNot)):
                    self.assertIn(getattr(right, "value", 0), (None, True, False), f"{name} {node.lineno}")

    def test_functions_and_classes(self):
        for name, node in self.nodes(ast.FunctionDef, ast.ClassDef):
            self.assertEqual(node.decorator_list, [], f"{name} {node.name}")
        for name, node in self.nodes(ast.arguments):
            self.assertEqual((node.vararg, node.kwarg, node.kwonlyargs, node.posonlyargs), (None, None, [], []), name)
        for name, node in self.nodes(ast.arg):
            self.assertIsNone(node.annotation, f"{name} {node.lineno}")
        for name, node in self.nodes(ast.ClassDef):
            self.assertLessEqual(len(node.bases), 1, f"{name} {node.name}")
            for part in node.body[1:]:
                self.assertIsInstance(part, ast.FunctionDef, f"{name} {node.name}")

    def test_the_top_of_a_file(self):
        for name, tree in self.trees.items():
            self.assertIsNotNone(ast.get_docstring(tree), name)
            bound = []
            for node in tree.body[1:]:
                self.assertIsInstance(node, (ast.ImportFrom, ast.Assign, ast.FunctionDef, ast.ClassDef), f"{name} {node.lineno}")
                if isinstance(node, ast.Assign):
                    self.assertTrue(is_plain_value(node.value), f"{name} {node.lineno}")
                    bound.append(node.targets[0].id)
                elif isinstance(node, ast.ImportFrom):
                    bound.extend(part.name for part in node.names)
                else:
                    bound.append(node.name)
            self.assertEqual(len(bound), len(set(bound)), name)

    def test_imports(self):
        drawn = {}
        for name, node in self.nodes(ast.ImportFrom):
            self.assertRegex(node.module, r"^cardreader\.[a-z]+$", name)
            source = node.module.split(".")[1] + ".py"
            drawn.setdefault(name, set()).add(source)
            defined = set(bound_names(self.trees[source]))
            for part in node.names:
                self.assertIsNone(part.asname, name)
                self.assertIn(part.name, defined, name)
        while drawn:
            free = [name for name in drawn if not drawn[name] & set(drawn)]
            self.assertNotEqual(free, [], "files that draw from one another")
            for name in free:
                drawn.pop(name)

    def test_names(self):
        for name, tree in self.trees.items():
            known = set(bound_names(tree)) | set(OWN_NAMES)
            known |= {part.name for node in ast.walk(tree) if isinstance(node, ast.ImportFrom) for part in node.names}
            for node in ast.walk(tree):
                if isinstance(node, ast.Name):
                    self.assertIn(node.id, known, f"{name} {node.lineno}")
            for bound in bound_names(tree):
                if bound != "__init__":
                    self.assertRegex(bound, r"^[A-Za-z][A-Za-z0-9_]*$", name)
                    self.assertNotIn(bound, dir(builtins), name)
                    self.assertNotIn(bound, NOT_USED, name)

    def test_no_local_is_called_like_a_class_or_an_import(self):
        for name, tree in self.trees.items():
            taken = {part.name for node in tree.body if isinstance(node, ast.ImportFrom) for part in node.names}
            taken |= {node.name for node in tree.body if isinstance(node, ast.ClassDef)}
            for node in ast.walk(tree):
                if isinstance(node, ast.FunctionDef):
                    own = set(bound_names(node)) - {node.name}
                    self.assertEqual(own & taken, set(), f"{name} {node.name}")

    def test_attributes(self):
        methods = {node.name for _, owner in self.nodes(ast.ClassDef) for node in owner.body if isinstance(node, ast.FunctionDef)}
        values = {node.attr for _, node in self.nodes(ast.Attribute) if isinstance(node.ctx, ast.Store)}
        self.assertEqual(methods & values, set())
        self.assertEqual(values & names_of_values() - set(VALUES_LIKE_METHODS), set())
        self.assertEqual(methods & names_of_values() - set(METHODS) - {"__init__"}, set())
        for name, node in self.nodes(ast.Attribute):
            self.assertIn(node.attr, methods | values | set(METHODS), f"{name} {node.lineno}")
            self.assertNotIn(node.attr, NOT_USED, f"{name} {node.lineno}")
        called = {id(node.func) for _, node in self.nodes(ast.Call)}
        for name, node in self.nodes(ast.Attribute):
            if node.attr in methods | set(METHODS) and node.attr not in values:
                self.assertIn(id(node), called, f"{name} {node.lineno}")

    def test_what_is_walked_at_once_is_not_kept(self):
        walked = set()
        for _, node in self.nodes(ast.For, ast.comprehension):
            walked.add(id(node.iter))
        for _, node in self.nodes(ast.Call):
            walked |= {id(part) for part in node.args}
        for name, node in self.nodes(ast.Call):
            called = getattr(node.func, "id", getattr(node.func, "attr", ""))
            if called in ("zip", "enumerate", "reversed", "range", "items", "keys", "values"):
                self.assertIn(id(node), walked, f"{name} {node.lineno}")


if __name__ == "__main__":
    unittest.main()
