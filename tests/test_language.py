"""The rules of ../shared/LANGUAGE.md that a plain look at the files can see; it does not see all of them."""

import ast
import builtins
import re
import unittest
from pathlib import Path

FOLDER = Path(__file__).resolve().parent.parent / "tiewebs"
FILES = sorted(FOLDER.rglob("*.py"))

BARRED_NODES = (
    ast.With, ast.Match, ast.Global, ast.Nonlocal, ast.Yield, ast.YieldFrom, ast.AsyncFunctionDef, ast.AsyncFor,
    ast.AsyncWith, ast.Await, ast.GeneratorExp, ast.NamedExpr, ast.Div, ast.Import, ast.MatMult,
)
BUILTINS = set(
    "len range enumerate zip min max sum abs sorted reversed int str bool bytes list tuple dict set frozenset "
    "isinstance ord repr any all divmod Exception ValueError TypeError KeyError IndexError LookupError "
    "ZeroDivisionError ArithmeticError OverflowError RuntimeError NotImplementedError AttributeError "
    "StopIteration".split())
BARRED_WORDS = re.compile(
    r"\b(type|typing|typing_extensions|enum|Enum|IntEnum|StrEnum|Flag|IntFlag|Generic|Protocol|ABC|ABCMeta|"
    r"namedtuple|NamedTuple|TypedDict|TYPE_CHECKING|abstractmethod)\b|dataclass|overload|contextmanager")
METHODS = set(
    "append clear copy count endswith extend find get index insert isalnum isalpha isdigit islower isspace isupper "
    "items join keys ljust lower lstrip partition pop remove replace reverse rfind rjust rpartition rsplit rstrip "
    "setdefault split splitlines startswith strip update upper values zfill bit_length add discard sort "
    "title capitalize swapcase casefold center expandtabs removeprefix removesuffix rindex isascii isdecimal "
    "isnumeric istitle isidentifier isprintable translate maketrans encode decode hex fromhex to_bytes "
    "from_bytes __init__".split())


def own_methods(trees):
    return {part.name for tree in trees for node in ast.walk(tree) if isinstance(node, ast.ClassDef)
            for part in node.body if isinstance(part, ast.FunctionDef)}


def defined_in(tree):
    """The names that a file gives at its top by itself."""
    found = []
    for node in tree.body:
        if isinstance(node, (ast.FunctionDef, ast.ClassDef)):
            found.append(node.name)
        elif isinstance(node, ast.Assign):
            found.extend([target.id for target in node.targets])
    return found


def imported_in(tree):
    """The pairs of a module and a name that a file imports from it."""
    return [(node.module, name.name) for node in tree.body if isinstance(node, ast.ImportFrom) for name in node.names]


def names_in(tree):
    """Each name that a file gives or uses."""
    for node in ast.walk(tree):
        if isinstance(node, ast.Name):
            yield node.id
        elif isinstance(node, (ast.FunctionDef, ast.ClassDef)):
            yield node.name
        elif isinstance(node, ast.arg):
            yield node.arg
        elif isinstance(node, ast.Attribute):
            yield node.attr


class Language(unittest.TestCase):
    def setUp(self):
        self.texts = {file: file.read_bytes().decode("utf-8") for file in FILES}
        self.trees = {file: ast.parse(text) for file, text in self.texts.items()}

    def walk(self):
        for file, tree in self.trees.items():
            for node in ast.walk(tree):
                yield f"{file.name}:{getattr(node, 'lineno', 0)}", node

    def test_files(self):
        self.assertIn(FOLDER / "__init__.py", FILES)
        for path in FOLDER.rglob("*"):
            if "__pycache__" not in path.parts and path.is_file():
                self.assertRegex(path.name, r"^[a-z0-9_]+\.py$")

    def test_characters_words_and_sizes(self):
        for file, text in self.texts.items():
            self.assertRegex(text, r"\A[\n -~]*\Z", file.name)
            self.assertIsNone(BARRED_WORDS.search(text), file.name)
            lines = text.splitlines()
            self.assertLessEqual(len(lines), 400, file.name)
            for line in lines:
                self.assertLessEqual(len(line), 120, line)

    def test_functions(self):
        for where, node in self.walk():
            if isinstance(node, (ast.FunctionDef, ast.ClassDef)):
                self.assertEqual(node.decorator_list, [], where)
            if isinstance(node, ast.FunctionDef):
                self.assertLessEqual(node.end_lineno - node.lineno + 1, 40, where)
                self.assertIsNone(node.args.vararg, where)
                self.assertIsNone(node.args.kwarg, where)
                self.assertEqual(node.args.posonlyargs, [], where)

    def test_statements_and_values(self):
        for where, node in self.walk():
            self.assertNotIsInstance(node, BARRED_NODES, where)
            if isinstance(node, (ast.For, ast.While)):
                self.assertEqual(node.orelse, [], where)
            if isinstance(node, ast.Starred):
                self.assertIsInstance(node.ctx, ast.Store, where)
            if isinstance(node, ast.Constant):
                self.assertNotIsInstance(node.value, (float, complex), where)
                self.assertNotIn("%", str(node.value), where)
            if isinstance(node, ast.Compare):
                for sign, right in zip(node.ops, node.comparators):
                    if isinstance(sign, (ast.Is, ast.IsNot)):
                        self.assertIsInstance(right, ast.Constant, where)
                        self.assertIn(repr(right.value), ("None", "True", "False"), where)

    def test_imports(self):
        for where, node in self.walk():
            if isinstance(node, ast.ImportFrom):
                self.assertEqual(node.level, 0, where)
                self.assertRegex(node.module, r"^(tiewebs\.[a-z0-9_]+|__future__)$", where)
                for name in node.names:
                    self.assertNotEqual(name.name, "*", where)

    def test_each_import_is_from_the_file_that_defines_the_name_and_is_used(self):
        for file, tree in self.trees.items():
            used = {node.id for node in ast.walk(tree) if isinstance(node, ast.Name)}
            for module, name in imported_in(tree):
                home = FOLDER / (module.split(".")[1] + ".py")
                self.assertIn(name, defined_in(self.trees[home]), file.name)
                self.assertIn(name, used, file.name)

    def test_no_two_files_import_from_each_other(self):
        reached = {file.stem: {module.split(".")[1] for module, name in imported_in(tree)}
                   for file, tree in self.trees.items()}
        for turn in reached:
            for one in reached:
                for other in list(reached[one]):
                    reached[one] |= reached[other]
        for one in reached:
            self.assertNotIn(one, reached[one])

    def test_each_name_is_bound_once_at_the_top(self):
        for file, tree in self.trees.items():
            names = defined_in(tree) + [name for module, name in imported_in(tree)]
            self.assertEqual(len(names), len(set(names)), file.name)

    def test_no_local_name_is_that_of_an_import_a_class_or_a_function(self):
        for file, tree in self.trees.items():
            taken = set(defined_in(tree)) | {name for module, name in imported_in(tree)}
            for part in [node for node in ast.walk(tree) if isinstance(node, ast.FunctionDef)]:
                for node in ast.walk(part):
                    if isinstance(node, ast.arg):
                        self.assertNotIn(node.arg, taken, f"{file.name}:{node.lineno}")
                    if isinstance(node, ast.Name) and isinstance(node.ctx, ast.Store):
                        self.assertNotIn(node.id, taken, f"{file.name}:{node.lineno}")

    def test_names(self):
        for file, tree in self.trees.items():
            for name in names_in(tree):
                if name != "__init__":
                    self.assertRegex(name, r"^[A-Za-z][A-Za-z0-9_]*$", file.name)

    def test_the_top_of_a_file_has_plain_values_functions_and_classes_alone(self):
        allowed = (ast.ImportFrom, ast.FunctionDef, ast.ClassDef, ast.Assign, ast.Expr)
        made = (ast.Call, ast.ListComp, ast.SetComp, ast.DictComp, ast.Set)
        for file, tree in self.trees.items():
            for at, node in enumerate(tree.body):
                where = f"{file.name}:{node.lineno}"
                self.assertIsInstance(node, allowed, where)
                if isinstance(node, ast.Expr):
                    self.assertEqual((at, type(node.value)), (0, ast.Constant), where)
                if isinstance(node, ast.Assign):
                    for part in ast.walk(node.value):
                        self.assertNotIsInstance(part, made, where)
                        if isinstance(part, (ast.List, ast.Dict)):
                            self.assertIs(part, node.value, where)

    def test_classes(self):
        methods, attributes = own_methods(self.trees.values()), set()
        for where, node in self.walk():
            if isinstance(node, ast.ClassDef):
                self.assertLessEqual(len(node.bases), 1, where)
                for part in node.body:
                    plain = isinstance(part, ast.Expr) and isinstance(part.value, ast.Constant)
                    self.assertTrue(plain or isinstance(part, ast.FunctionDef), where)
            if isinstance(node, ast.Attribute) and isinstance(node.ctx, ast.Store):
                attributes.add(node.attr)
        self.assertEqual(methods & attributes, set())
        self.assertEqual((methods | attributes) & (METHODS - {"__init__"}), set())

    def test_lists_and_dicts_at_the_top_of_a_file_are_not_changed(self):
        for file, tree in self.trees.items():
            tables = {node.targets[0].id for node in tree.body
                      if isinstance(node, ast.Assign) and isinstance(node.value, (ast.List, ast.Dict))}
            for node in ast.walk(tree):
                if isinstance(node, ast.Subscript) and isinstance(node.value, ast.Name) and node.value.id in tables:
                    self.assertIsInstance(node.ctx, ast.Load, file.name)
                if isinstance(node, ast.Attribute) and isinstance(node.value, ast.Name) and node.value.id in tables:
                    self.assertIn(node.attr, ("get", "items", "keys", "values", "index", "count"), file.name)

    def test_builtins(self):
        for where, node in self.walk():
            if isinstance(node, ast.Name) and hasattr(builtins, node.id):
                self.assertIn(node.id, BUILTINS, where)
                self.assertIsInstance(node.ctx, ast.Load, where)
            if isinstance(node, ast.arg):
                self.assertFalse(hasattr(builtins, node.arg), where)

    def test_methods(self):
        known = METHODS | own_methods(self.trees.values())
        for where, node in self.walk():
            if isinstance(node, ast.Call) and isinstance(node.func, ast.Attribute):
                self.assertIn(node.func.attr, known, where)


if __name__ == "__main__":
    unittest.main()
