"""The package keeps to the small part of Python that is asked for: what a walk over its syntax can see of it."""

import ast
import builtins
import pathlib
import re
import unittest

PACKAGE = pathlib.Path(__file__).resolve().parent.parent / "latebells"

NODES = {
    "Module", "Expr", "Constant", "ImportFrom", "alias", "FunctionDef", "arguments", "arg", "Lambda", "ClassDef",
    "Assign", "AugAssign", "If", "While", "For", "Return", "Break", "Continue", "Pass", "Raise", "Try", "ExceptHandler",
    "Call", "keyword", "Name", "Attribute", "Subscript", "Slice", "List", "Tuple", "Dict", "Set", "ListComp",
    "comprehension", "JoinedStr", "FormattedValue", "IfExp", "BoolOp", "And", "Or", "UnaryOp", "Not", "USub", "Invert",
    "BinOp", "Add", "Sub", "Mult", "FloorDiv", "Mod", "Pow", "BitAnd", "BitOr", "BitXor", "LShift", "RShift",
    "Compare", "Eq", "NotEq", "Lt", "LtE", "Gt", "GtE", "Is", "IsNot", "In", "NotIn", "Load", "Store",
}
OWN_NAMES = set(
    "len range enumerate zip min max sum abs sorted reversed int str bool list tuple dict set frozenset isinstance ord "
    "repr any all divmod Exception ValueError TypeError KeyError IndexError LookupError ZeroDivisionError "
    "ArithmeticError OverflowError RuntimeError NotImplementedError AttributeError StopIteration".split())
METHODS = set(
    "append clear copy count endswith extend find get index insert isalnum isalpha isdigit islower isspace isupper "
    "items join keys ljust lower lstrip partition pop remove replace reverse rfind rjust rpartition rsplit rstrip "
    "setdefault split splitlines startswith strip update upper values zfill bit_length".split())
DUNDERS = {"__init__", "__eq__", "__repr__", "__str__", "__len__"}
# Names of Python's own values that methods, and values of objects, may have all the same.
METHODS_LIKE_OWN = METHODS | {"add", "discard"}
VALUES_LIKE_OWN = set("count index title find get join lower upper split strip copy add".split())
NAMES_OF_OWN = {name for kind in (str, int, list, tuple, dict, set, frozenset, bytes, bytearray) for name in dir(kind)}
WORDS = re.compile(
    r"\b(type|typing|typing_extensions|enum|Enum|IntEnum|StrEnum|Flag|IntFlag|Generic|Protocol|ABC|ABCMeta|namedtuple"
    r"|NamedTuple|TypedDict|TYPE_CHECKING|abstractmethod)\b|dataclass|overload|contextmanager")


def files():
    return sorted(path for path in PACKAGE.iterdir() if path.name != "__pycache__")


def trees():
    return [(path.name, ast.parse(path.read_text(encoding="utf-8"))) for path in files()]


def bound_names(tree):
    told = []
    for node in ast.walk(tree):
        if isinstance(node, (ast.FunctionDef, ast.ClassDef)):
            told.append(node.name)
        elif isinstance(node, ast.arg):
            told.append(node.arg)
        elif isinstance(node, ast.Name) and isinstance(node.ctx, ast.Store):
            told.append(node.id)
        elif isinstance(node, ast.Attribute):
            told.append(node.attr)
    return told


def classes():
    return [(name, node) for name, tree in trees() for node in tree.body if isinstance(node, ast.ClassDef)]


def stored_values():
    return {node.attr for name, tree in trees() for node in ast.walk(tree)
            if isinstance(node, ast.Attribute) and isinstance(node.ctx, ast.Store)}


def drawn_from(tree):
    return [node.module.split(".")[1] + ".py" for node in tree.body if isinstance(node, ast.ImportFrom)]


class Language(unittest.TestCase):
    def test_files(self):
        self.assertIn("__init__.py", [path.name for path in files()])
        for path in files():
            self.assertRegex(path.name, r"^(__init__|__main__|[a-z][a-z0-9_]*)\.py$")

    def test_signs_and_rows(self):
        for path in files():
            text = path.read_bytes().decode("ascii")
            self.assertTrue(all(sign == "\n" or " " <= sign <= "~" for sign in text), path.name)
            rows = text.split("\n")
            self.assertLessEqual(len(rows), 400, path.name)
            self.assertLessEqual(max(len(row) for row in rows), 120, path.name)
            self.assertIsNone(WORDS.search(text), path.name)

    def test_functions_are_short_and_plain(self):
        for name, tree in trees():
            for node in ast.walk(tree):
                if isinstance(node, ast.FunctionDef):
                    self.assertLessEqual(node.end_lineno - node.lineno + 1, 40, (name, node.name))
                    self.assertEqual(node.decorator_list, [], (name, node.name))
                    self.assertIsNone(node.args.vararg or node.args.kwarg or node.returns, (name, node.name))
                    self.assertEqual(node.args.kwonlyargs + node.args.posonlyargs, [], (name, node.name))

    def test_forms(self):
        for name, tree in trees():
            for node in ast.walk(tree):
                where = (name, getattr(node, "lineno", 0))
                self.assertIn(node.__class__.__name__, NODES, where)
                if isinstance(node, ast.Assign):
                    self.assertEqual(len(node.targets), 1, where)
                    self.assertNotIsInstance(node.targets[0], (ast.Tuple, ast.List), where)
                if isinstance(node, ast.Constant):
                    self.assertIn(node.value.__class__, (int, str, bool, None.__class__), where)
                if isinstance(node, (ast.For, ast.While)):
                    self.assertEqual(node.orelse, [], where)
                if isinstance(node, ast.ListComp):
                    self.assertEqual(len(node.generators), 1, where)
                    self.assertLessEqual(len(node.generators[0].ifs), 1, where)

    def test_is_stands_beside_none_true_and_false_alone(self):
        for name, tree in trees():
            for node in ast.walk(tree):
                if isinstance(node, ast.Compare) and isinstance(node.ops[0], (ast.Is, ast.IsNot)):
                    self.assertIsInstance(node.comparators[0], ast.Constant, (name, node.lineno))
                    self.assertIn(node.comparators[0].value, (None, True, False), (name, node.lineno))

    def test_bare_texts_stand_at_the_top_alone(self):
        for name, tree in trees():
            for node in ast.walk(tree):
                if isinstance(node, ast.Expr) and node != tree.body[0]:
                    self.assertIsInstance(node.value, ast.Call, (name, node.lineno))

    def test_imports(self):
        for name, tree in trees():
            for node in ast.walk(tree):
                if isinstance(node, ast.ImportFrom):
                    self.assertIn(node, tree.body, name)
                    self.assertEqual(node.level, 0, name)
                    self.assertRegex(node.module, r"^latebells\.[a-z]+$", name)
                    home = ast.parse((PACKAGE / (node.module.split(".")[1] + ".py")).read_text(encoding="utf-8"))
                    defined = [one.name for one in home.body if isinstance(one, (ast.FunctionDef, ast.ClassDef))]
                    for one in node.names:
                        self.assertIn(one.name, defined, name)
                        self.assertIsNone(one.asname, name)

    def test_no_two_files_draw_from_one_another(self):
        rows = {name: drawn_from(tree) for name, tree in trees()}
        while rows:
            free = [name for name in rows if not any(home in rows for home in rows[name])]
            self.assertNotEqual(free, [], sorted(rows))
            rows = {name: rows[name] for name in rows if name not in free}

    def test_classes_hold_methods_alone(self):
        for name, node in classes():
            self.assertLessEqual(len(node.bases), 1, (name, node.name))
            self.assertEqual(node.keywords + node.decorator_list, [], (name, node.name))
            methods = [one.name for one in node.body if isinstance(one, ast.FunctionDef)]
            self.assertEqual(len(methods), len(set(methods)), (name, node.name))
            for one in node.body:
                self.assertIsInstance(one, (ast.FunctionDef, ast.Pass), (name, node.name))

    def test_methods_and_values_of_objects(self):
        methods = {one.name for name, node in classes() for one in node.body if isinstance(one, ast.FunctionDef)}
        self.assertEqual(methods & stored_values(), set())
        self.assertEqual((methods - DUNDERS) & NAMES_OF_OWN - METHODS_LIKE_OWN, set())
        self.assertEqual(stored_values() & NAMES_OF_OWN - VALUES_LIKE_OWN, set())

    def test_names(self):
        for name, tree in trees():
            for bound in bound_names(tree):
                if bound not in DUNDERS:
                    self.assertRegex(bound, r"^[A-Za-z][A-Za-z0-9_]*$", name)
                    self.assertTrue(bound in METHODS or not hasattr(builtins, bound), (name, bound))
            known = set(bound_names(tree)) | OWN_NAMES
            known |= {one.name for node in tree.body if isinstance(node, ast.ImportFrom) for one in node.names}
            used = {node.id for node in ast.walk(tree) if isinstance(node, ast.Name)}
            self.assertEqual(used - known, set(), name)

    def test_no_parameter_or_local_is_called_like_a_class_or_an_import(self):
        for name, tree in trees():
            taken = {one.name for node in tree.body if isinstance(node, ast.ImportFrom) for one in node.names}
            taken |= {node.name for node in tree.body if isinstance(node, ast.ClassDef)}
            within = {node.arg for node in ast.walk(tree) if isinstance(node, ast.arg)}
            within |= {node.id for node in ast.walk(tree) if isinstance(node, ast.Name) and isinstance(node.ctx, ast.Store)}
            self.assertEqual(taken & within, set(), name)

    def test_each_name_of_a_top_is_bound_once(self):
        for name, tree in trees():
            bound = []
            for node in tree.body:
                if isinstance(node, (ast.FunctionDef, ast.ClassDef)):
                    bound.append(node.name)
                elif isinstance(node, ast.ImportFrom):
                    bound.extend(one.name for one in node.names)
                elif isinstance(node, ast.Assign):
                    bound.append(node.targets[0].id)
            self.assertEqual(sorted(bound), sorted(set(bound)), name)


if __name__ == "__main__":
    unittest.main()
