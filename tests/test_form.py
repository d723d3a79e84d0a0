"""The form of the package's own files, as far as a test can see it."""

import ast
import builtins
import pathlib
import re
import unittest

FOLDER = pathlib.Path(__file__).resolve().parent.parent / "rankseals"
FILES = sorted(FOLDER.glob("*.py"))

BUILTINS = set(
    "len range enumerate zip min max sum abs sorted reversed int str bool bytes list tuple dict set frozenset "
    "isinstance ord repr any all divmod Exception ValueError TypeError KeyError IndexError LookupError "
    "ZeroDivisionError ArithmeticError OverflowError RuntimeError NotImplementedError AttributeError "
    "StopIteration".split()
)
METHODS = set(
    "append clear copy count endswith extend find get index insert isalnum isalpha isdigit islower isspace "
    "isupper items join keys ljust lower lstrip partition pop remove replace reverse rfind rjust rpartition "
    "rsplit rstrip setdefault split splitlines startswith strip update upper values zfill bit_length sort "
    "add discard".split()
)
DUNDERS = {"__init__", "__eq__", "__repr__", "__str__", "__len__"}
WORDS = (
    "type typing typing_extensions enum Enum IntEnum StrEnum Flag IntFlag Generic Protocol ABC ABCMeta "
    "namedtuple NamedTuple TypedDict TYPE_CHECKING abstractmethod".split()
)
NODES = (
    ast.GeneratorExp, ast.NamedExpr, ast.Yield, ast.YieldFrom, ast.Await, ast.With, ast.AsyncWith, ast.AsyncFor,
    ast.AsyncFunctionDef, ast.Match, ast.Global, ast.Nonlocal, ast.Div, ast.MatMult,
    ast.Import, ast.AnnAssign,
)


def trees():
    return [(path, ast.parse(path.read_text("utf-8"))) for path in FILES]


def nodes(*kinds):
    return [(path.name, node) for path, tree in trees() for node in ast.walk(tree) if isinstance(node, kinds)]


class Form(unittest.TestCase):
    def test_there_are_files_and_nothing_else(self):
        self.assertIn(FOLDER / "__init__.py", FILES)
        others = [path.name for path in FOLDER.iterdir() if path not in FILES and path.name != "__pycache__"]
        self.assertEqual(others, [])
        for path in FILES:
            self.assertRegex(path.name, r"\A(__init__|[a-z][a-z0-9_]*)\.py\Z")

    def test_signs_and_sizes(self):
        for path in FILES:
            text = path.read_bytes().decode("ascii")
            self.assertRegex(text, r"\A[ -~\n]*\Z", path.name)
            rows = text.split("\n")
            self.assertLessEqual(len(rows), 400, path.name)
            self.assertLessEqual(max(map(len, rows)), 120, path.name)
            for word in re.findall(r"\w+", text):
                self.assertNotIn(word, WORDS, path.name)
                self.assertNotRegex(word, "dataclass|overload|contextmanager", path.name)

    def test_functions_are_short_and_plain(self):
        for name, node in nodes(ast.FunctionDef):
            self.assertLessEqual(node.end_lineno - node.lineno + 1, 40, (name, node.name))
            given = node.args
            self.assertEqual((given.posonlyargs, given.vararg, given.kwarg), ([], None, None), (name, node.name))
            self.assertEqual(node.decorator_list, [], (name, node.name))
        for name, node in nodes(ast.ClassDef):
            self.assertLessEqual(len(node.bases), 1, (name, node.name))
            self.assertEqual((node.keywords, node.decorator_list), ([], []), (name, node.name))
            for inner in node.body:
                plain = isinstance(inner, ast.FunctionDef) or (
                    isinstance(inner, ast.Expr) and isinstance(inner.value, ast.Constant))
                self.assertTrue(plain, (name, node.name))

    def test_no_statement_and_no_expression_that_is_left_out(self):
        self.assertEqual([(name, node) for name, node in nodes(*NODES)], [])
        for name, node in nodes(ast.For, ast.While):
            self.assertEqual(node.orelse, [], (name, node.lineno))
        for name, node in nodes(ast.Starred):
            self.assertIsInstance(node.ctx, ast.Store, name)
        for name, node in nodes(ast.Constant):
            self.assertNotIsInstance(node.value, (float, complex), name)
            if isinstance(node.value, str):
                self.assertNotIn("%", node.value, name)
        for name, node in nodes(ast.Compare):
            for sign, right in zip(node.ops, node.comparators):
                if isinstance(sign, (ast.Is, ast.IsNot)):
                    self.assertIsInstance(right, ast.Constant, (name, node.lineno))

    def test_imports_are_the_packages_own(self):
        defs = {path.stem: [row.name for row in tree.body if isinstance(row, (ast.FunctionDef, ast.ClassDef))]
                + [row.targets[0].id for row in tree.body if isinstance(row, ast.Assign)] for path, tree in trees()}
        for name, node in nodes(ast.ImportFrom):
            self.assertEqual(node.level, 0, name)
            package, place = node.module.split(".")
            self.assertEqual(package, "rankseals", name)
            for drawn in node.names:
                self.assertIn(drawn.name, defs[place], name)

    def test_no_two_files_draw_from_one_another(self):
        drawn = {path.stem: [row.module.split(".")[1] for row in tree.body if isinstance(row, ast.ImportFrom)]
                 for path, tree in trees()}
        while drawn:
            free = [name for name in drawn if not any(place in drawn for place in drawn[name])]
            self.assertTrue(free, drawn)
            drawn = {name: places for name, places in drawn.items() if name not in free}

    def test_each_name_once_and_no_local_like_an_import_or_a_class(self):
        for path, tree in trees():
            drawn = [some.name for row in tree.body if isinstance(row, ast.ImportFrom) for some in row.names]
            classes = [row.name for row in tree.body if isinstance(row, ast.ClassDef)]
            bound = drawn + classes + [row.name for row in tree.body if isinstance(row, ast.FunctionDef)]
            bound += [row.targets[0].id for row in tree.body if isinstance(row, ast.Assign)]
            self.assertEqual(len(set(bound)), len(bound), path.name)
            for row in tree.body:
                if isinstance(row, (ast.FunctionDef, ast.ClassDef)):
                    given = [node.arg for node in ast.walk(row) if isinstance(node, ast.arg)]
                    given += [node.id for node in ast.walk(row)
                              if isinstance(node, ast.Name) and isinstance(node.ctx, ast.Store)]
                    self.assertFalse(set(given) & set(drawn + classes), (path.name, row.name))

    def test_the_top_of_a_file(self):
        for path, tree in trees():
            for row in tree.body:
                plain = isinstance(row, (ast.ImportFrom, ast.FunctionDef, ast.ClassDef, ast.Assign)) or (
                    isinstance(row, ast.Expr) and isinstance(row.value, ast.Constant))
                self.assertTrue(plain, (path.name, row.lineno))
                if isinstance(row, ast.Assign) and isinstance(row.value, (ast.List, ast.Dict)):
                    inner = [node for node in ast.walk(row.value) if isinstance(node, (ast.List, ast.Dict))]
                    self.assertEqual(len(inner), 1, (path.name, row.lineno))

    def test_no_name_is_a_method_and_a_value(self):
        methods = {row.name for _, node in nodes(ast.ClassDef) for row in node.body if isinstance(row, ast.FunctionDef)}
        values = {node.attr for _, node in nodes(ast.Attribute) if isinstance(node.ctx, ast.Store)}
        self.assertEqual(methods & values, set())

    def test_sets_and_walks_are_not_kept(self):
        for path, tree in trees():
            around = {id(inner): node for node in ast.walk(tree) for inner in ast.iter_child_nodes(node)}
            for node in ast.walk(tree):
                called = node.func.id if isinstance(node, ast.Call) and isinstance(node.func, ast.Name) else ""
                if isinstance(node, (ast.Set, ast.SetComp)) or called in ("set", "frozenset"):
                    self.assertIn(ast.unparse(getattr(around[id(node)], "func", ast.Name("none"))), ("sorted", "len"),
                                  (path.name, node.lineno))
                method = node.func.attr if isinstance(node, ast.Call) and isinstance(node.func, ast.Attribute) else ""
                if called in ("zip", "enumerate", "reversed", "range") or method in ("items", "keys", "values"):
                    walker = ast.unparse(getattr(around[id(node)], "func", ast.Name("none")))
                    walked = walker in ("list", "tuple", "dict", "sorted", "sum", "any", "all", "min", "max")
                    self.assertTrue(walked or isinstance(around[id(node)], (ast.For, ast.comprehension)),
                                    (path.name, node.lineno))

    def test_names(self):
        own = {node.name for _, node in nodes(ast.FunctionDef)} | {
            node.attr for _, node in nodes(ast.Attribute) if isinstance(node.ctx, ast.Store)}
        python = set(dir(builtins)) | {"__name__"}
        for name, node in nodes(ast.Name):
            self.assertFalse(node.id.startswith("_"), (name, node.id))
            if node.id in python:
                self.assertIsInstance(node.ctx, ast.Load, (name, node.id))
                self.assertIn(node.id, BUILTINS, name)
        for name, node in nodes(ast.arg):
            self.assertNotIn(node.arg, python, name)
            self.assertFalse(node.arg.startswith("_"), name)
        for name, node in nodes(ast.FunctionDef, ast.ClassDef):
            self.assertNotIn(node.name, python, name)
            self.assertTrue(not node.name.startswith("_") or node.name in DUNDERS, (name, node.name))
        for name, node in nodes(ast.Attribute):
            self.assertIn(node.attr, METHODS | own | DUNDERS, name)


if __name__ == "__main__":
    unittest.main()
