"""The package's own files keep to the small part of Python that is written down for them.

Only what can be seen rule by rule in the syntax tree is looked at here; the rest is for a reader.
"""

import ast
import builtins
import pathlib
import re
import unittest

PACKAGE = pathlib.Path(__file__).resolve().parent.parent / "landsentered"
FILES = sorted(PACKAGE.glob("*.py"))

NODES = """Module Expr Import ImportFrom alias FunctionDef ClassDef arguments arg Return Assign AugAssign If While For
Break Continue Pass Raise Try ExceptHandler Call keyword Name Load Store Constant List Tuple Dict Set ListComp
comprehension BinOp UnaryOp BoolOp Compare IfExp Attribute Subscript Slice Lambda JoinedStr FormattedValue
Add Sub Mult FloorDiv Mod Pow BitAnd BitOr BitXor LShift RShift Invert USub UAdd Not And Or
Eq NotEq Lt LtE Gt GtE Is IsNot In NotIn""".split()
BUILTINS = """len range enumerate zip min max sum abs sorted reversed int str bool list tuple dict set frozenset
isinstance ord repr any all divmod Exception ValueError TypeError KeyError IndexError LookupError
ZeroDivisionError ArithmeticError OverflowError RuntimeError NotImplementedError AttributeError
StopIteration""".split()
METHODS = """append clear copy count endswith extend find get index insert isalnum isalpha isdigit islower isspace
isupper items join keys ljust lower lstrip partition pop remove replace reverse rfind rjust rpartition rsplit
rstrip setdefault split splitlines startswith strip update upper values zfill bit_length""".split()
DUNDERS = ["__init__", "__eq__", "__repr__", "__str__", "__len__"]
WORDS = """type typing typing_extensions enum Enum IntEnum StrEnum Flag IntFlag Generic Protocol ABC ABCMeta namedtuple
NamedTuple TypedDict TYPE_CHECKING abstractmethod""".split()
NAMES_OUT = """register mro elements open input version_info with_traceback add_note format format_map attrgetter
breakpoint builtins compile copyright credits delattr dir eval exec exit gc getattr globals hasattr help id
importlib license locals methodcaller os quit setattr super vars sys""".split()


def tree_of(path):
    return ast.parse(path.read_text())


def bound_names(node):
    """The names that a node binds, of whatever kind."""
    if isinstance(node, (ast.FunctionDef, ast.ClassDef)):
        return [node.name]
    if isinstance(node, ast.arg):
        return [node.arg]
    if isinstance(node, ast.Name) and isinstance(node.ctx, ast.Store):
        return [node.id]
    return []


def own_names(tree):
    return [name for node in ast.walk(tree) for name in bound_names(node)]


def imported_names(tree):
    return [alias.name for node in ast.walk(tree) if isinstance(node, ast.ImportFrom) for alias in node.names]


def drawn_from(tree):
    return [node.module for node in tree.body if isinstance(node, ast.ImportFrom)]


class Form(unittest.TestCase):
    def every_node(self):
        for path in FILES:
            for node in ast.walk(tree_of(path)):
                yield f"{path.name}:{getattr(node, 'lineno', 0)}", node

    def test_files(self):
        self.assertIn("__init__.py", [path.name for path in FILES])
        for path in PACKAGE.iterdir():
            if path.name != "__pycache__":
                self.assertRegex(path.name, r"\A(__init__|[a-z][a-z0-9_]*)\.py\Z")
                self.assertNotIn(path.stem, dir(builtins) + WORDS + ["test", "tests", "testing", "site", "conftest"])

    def test_signs_and_sizes(self):
        for path in FILES:
            text = path.read_text()
            self.assertRegex(text, r"\A[ -~\n]*\Z", path.name)
            self.assertLessEqual(len(text.splitlines()), 400, path.name)
            self.assertLessEqual(max(len(line) for line in text.splitlines()), 120, path.name)
            for node in ast.walk(ast.parse(text)):
                if isinstance(node, ast.FunctionDef):
                    self.assertLessEqual(node.end_lineno - node.lineno + 1, 40, node.name)

    def test_words_that_stand_nowhere(self):
        for path in FILES:
            for word in re.findall(r"\w+", path.read_text()):
                self.assertNotIn(word, WORDS, path.name)
                self.assertNotRegex(word, r"dataclass|overload|contextmanager", path.name)

    def test_nodes(self):
        for place, node in self.every_node():
            self.assertIn(node.__class__.__name__, NODES, place)
            if isinstance(node, ast.Assign):
                self.assertEqual(len(node.targets), 1, place)
            if isinstance(node, (ast.For, ast.While)):
                self.assertEqual(node.orelse, [], place)
            if isinstance(node, ast.Try):
                self.assertEqual(node.finalbody, [], place)
            if isinstance(node, ast.ListComp):
                self.assertEqual(len(node.generators), 1, place)
                self.assertLessEqual(len(node.generators[0].ifs), 1, place)
            if isinstance(node, (ast.FunctionDef, ast.ClassDef)):
                self.assertEqual(node.decorator_list, [], place)
            if isinstance(node, ast.arguments):
                self.assertFalse(node.vararg or node.kwarg or node.kwonlyargs or node.posonlyargs, place)
            if isinstance(node, ast.Constant):
                self.assertIsInstance(node.value, (int, str, type(None)), place)

    def test_is_stands_beside_none_and_truths(self):
        for place, node in self.every_node():
            if isinstance(node, ast.Compare) and any(isinstance(op, (ast.Is, ast.IsNot)) for op in node.ops):
                self.assertTrue(all(isinstance(c, ast.Constant) for c in node.comparators), place)

    def test_powers_have_written_exponents(self):
        for place, node in self.every_node():
            if isinstance(node, ast.BinOp) and isinstance(node.op, ast.Pow):
                self.assertIsInstance(node.right, ast.Constant, place)

    def test_texts(self):
        for place, node in self.every_node():
            if isinstance(node, ast.Constant) and isinstance(node.value, str):
                self.assertNotIn("%", node.value, place)

    def test_tops(self):
        for path in FILES:
            body = tree_of(path).body
            self.assertIsInstance(body[0], ast.Expr, path.name)
            for node in body[1:]:
                self.assertIsInstance(node, (ast.ImportFrom, ast.FunctionDef, ast.ClassDef, ast.Assign), path.name)
                if isinstance(node, ast.Assign):
                    self.assertNotIsInstance(node.value, (ast.Call, ast.BinOp, ast.ListComp), path.name)
            names = [name for node in body for name in bound_names(node)]
            self.assertEqual(len(names), len(set(names)), path.name)

    def test_imports(self):
        defined = {f"landsentered.{path.stem}": own_names(tree_of(path)) for path in FILES}
        for path in FILES:
            tree = tree_of(path)
            for node in ast.walk(tree):
                self.assertNotIsInstance(node, ast.Import, path.name)
                if isinstance(node, ast.ImportFrom):
                    self.assertIn(node, tree.body, path.name)
                    for alias in node.names:
                        self.assertIn(alias.name, defined[node.module], path.name)
                        self.assertIsNone(alias.asname)

    def test_no_two_files_draw_from_one_another(self):
        drawn = {f"landsentered.{path.stem}": drawn_from(tree_of(path)) for path in FILES}
        done = []
        while len(done) < len(drawn):
            free = [name for name in drawn if name not in done and all(other in done for other in drawn[name])]
            self.assertTrue(free, "a ring of imports")
            done.extend(free)

    def test_names(self):
        for path in FILES:
            tree = tree_of(path)
            classes = [node.name for node in tree.body if isinstance(node, ast.ClassDef)]
            for name in own_names(tree):
                if name not in DUNDERS:
                    self.assertRegex(name, r"\A[A-Za-z][A-Za-z0-9_]*\Z", path.name)
                    self.assertNotIn(name, NAMES_OUT + dir(builtins), path.name)
            for node in ast.walk(tree):
                if isinstance(node, ast.arg) or isinstance(node, ast.Name) and isinstance(node.ctx, ast.Store):
                    self.assertNotIn(bound_names(node)[0], imported_names(tree) + classes, path.name)

    def test_names_of_pythons_own(self):
        for path in FILES:
            known = own_names(tree_of(path)) + imported_names(tree_of(path)) + BUILTINS
            for node in ast.walk(tree_of(path)):
                if isinstance(node, ast.Name):
                    self.assertIn(node.id, known, f"{path.name}:{node.lineno}")

    def test_attributes(self):
        own = [name for path in FILES for name in own_names(tree_of(path))]
        own += [node.attr for _, node in self.every_node()
                if isinstance(node, ast.Attribute) and isinstance(node.ctx, ast.Store)]
        for place, node in self.every_node():
            if isinstance(node, ast.Attribute):
                self.assertIn(node.attr, own + METHODS, place)
                self.assertNotIn(node.attr, NAMES_OUT, place)

    def test_classes_hold_defs_alone(self):
        for place, node in self.every_node():
            if isinstance(node, ast.ClassDef):
                self.assertLessEqual(len(node.bases), 1, place)
                for part in node.body:
                    self.assertIsInstance(part, (ast.FunctionDef, ast.Pass), place)

    def test_no_name_is_a_method_and_a_value(self):
        methods = [part.name for _, node in self.every_node() if isinstance(node, ast.ClassDef)
                   for part in node.body if isinstance(part, ast.FunctionDef)]
        values = [node.attr for _, node in self.every_node()
                  if isinstance(node, ast.Attribute) and isinstance(node.ctx, ast.Store)]
        self.assertEqual(set(methods) & set(values), set())
        pythons = [name for kind in (str, int, list, dict, set, bytes) for name in dir(kind)]
        for name in methods + values:
            self.assertNotIn(name, [other for other in pythons if other not in DUNDERS])

    def test_lists_and_dicts_of_a_top_hold_none_themselves(self):
        for path in FILES:
            for node in tree_of(path).body:
                if isinstance(node, ast.Assign):
                    held = [part for part in ast.walk(node.value) if isinstance(part, (ast.List, ast.Dict))]
                    self.assertLessEqual(len(held), 1, path.name)

    def test_sets_are_asked_on_the_spot(self):
        for path in FILES:
            tree = tree_of(path)
            within = [part for node in ast.walk(tree) if isinstance(node, ast.Call) and isinstance(node.func, ast.Name)
                      and node.func.id in ("len", "sorted") for part in node.args]
            for node in ast.walk(tree):
                self.assertNotIsInstance(node, ast.Set, path.name)
                if isinstance(node, ast.Call) and isinstance(node.func, ast.Name) and node.func.id == "set":
                    self.assertIn(node, within, path.name)


if __name__ == "__main__":
    unittest.main()
