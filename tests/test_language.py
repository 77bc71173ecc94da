"""The package keeps to its small part of Python: the rules that can be seen in a file's tree.

Not every rule is asked here; what is asked fails with the file and the line.
"""

import ast
import builtins
import pathlib
import re
import unittest

PACKAGE = pathlib.Path(__file__).resolve().parent.parent / "hadbeen"
FILES = sorted(PACKAGE.rglob("*.py"))

OWN_NAMES = set(
    "len range enumerate zip min max sum abs sorted reversed int str bool list tuple dict set frozenset "
    "isinstance ord repr any all divmod Exception ValueError TypeError KeyError IndexError LookupError "
    "ZeroDivisionError ArithmeticError OverflowError RuntimeError NotImplementedError AttributeError "
    "StopIteration".split()
)
METHODS = {"__init__", "__eq__", "__repr__", "__str__", "__len__"}
OUT_WORDS = set(
    "type typing typing_extensions enum Enum IntEnum StrEnum Flag IntFlag Generic Protocol ABC ABCMeta namedtuple "
    "NamedTuple TypedDict TYPE_CHECKING abstractmethod".split()
)
OUT_PIECES = ("dataclass", "overload", "contextmanager")
OUT_NAMES = set(
    "register mro elements open input version_info with_traceback add_note format format_map chr".split()
)
OWN_METHODS = set(
    "append clear copy count endswith extend find get index insert isalnum isalpha isdigit islower isspace isupper "
    "items join keys ljust lower lstrip partition pop remove replace reverse rfind rjust rpartition rsplit rstrip "
    "setdefault split splitlines startswith strip update upper values zfill bit_length".split()
)
OUT_NODES = (
    ast.With, ast.AsyncWith, ast.AsyncFor, ast.AsyncFunctionDef, ast.Await, ast.Delete, ast.Global, ast.Nonlocal,
    ast.Assert, ast.Yield, ast.YieldFrom, ast.Match, ast.SetComp, ast.DictComp, ast.GeneratorExp, ast.NamedExpr,
    ast.Starred, ast.Div, ast.MatMult, ast.AnnAssign, ast.Import,
)


def trees():
    for path in FILES:
        yield path, ast.parse(path.read_text(encoding="utf-8"))


def nodes():
    for path, tree in trees():
        for node in ast.walk(tree):
            yield f"{path.name}:{getattr(node, 'lineno', 0)}", node


class FilesTest(unittest.TestCase):
    def test_only_plain_python_files_lie_in_the_package(self):
        self.assertTrue((PACKAGE / "__init__.py").is_file())
        for path in PACKAGE.rglob("*"):
            if "__pycache__" not in path.parts:
                self.assertRegex(path.name, r"\A[a-z0-9_]+\.py\Z")
                self.assertFalse(path.stem != "__init__" and hasattr(builtins, path.stem), path)
                self.assertNotRegex(path.stem, r"\A(test.*|site|conftest|sitecustomize|usercustomize)\Z")

    def test_signs_and_sizes(self):
        for path in FILES:
            text = path.read_bytes().decode("ascii")
            self.assertNotRegex(text, r"[^ -~\n]", path.name)
            lines = text.split("\n")
            self.assertLessEqual(len(lines), 400, path.name)
            self.assertLessEqual(max(len(line) for line in lines), 120, path.name)

    def test_words_that_stand_nowhere(self):
        for path in FILES:
            text = path.read_text(encoding="utf-8")
            self.assertEqual(set(re.findall(r"\w+", text)) & OUT_WORDS, set(), path.name)
            for piece in OUT_PIECES:
                self.assertNotIn(piece, text, path.name)


class TreesTest(unittest.TestCase):
    def test_nodes_that_are_out(self):
        for where, node in nodes():
            self.assertNotIsInstance(node, OUT_NODES, where)
            if isinstance(node, (ast.For, ast.While)):
                self.assertEqual(node.orelse, [], where)
            if isinstance(node, ast.Try):
                self.assertEqual(node.finalbody, [], where)
            if isinstance(node, ast.Assign):
                self.assertEqual(len(node.targets), 1, where)
            if isinstance(node, ast.ListComp):
                self.assertEqual(len(node.generators), 1, where)
                self.assertLessEqual(len(node.generators[0].ifs), 1, where)
            if isinstance(node, ast.FormattedValue):
                self.assertIsInstance(node.value, ast.Name, where)
                self.assertIsNone(node.format_spec, where)

    def test_texts_and_numbers(self):
        for where, node in nodes():
            if isinstance(node, ast.Constant):
                self.assertIn(type(node.value), (int, str, bool, type(None)), where)
                if isinstance(node.value, str):
                    self.assertNotIn("%", node.value, where)

    def test_is_stands_beside_none_and_truths_alone(self):
        for where, node in nodes():
            if isinstance(node, ast.Compare) and any(isinstance(op, (ast.Is, ast.IsNot)) for op in node.ops):
                self.assertIn(ast.unparse(node.comparators[0]), ("None", "True", "False"), where)

    def test_what_is_walked_is_walked_at_once(self):
        for path, tree in trees():
            above = {child: node for node in ast.walk(tree) for child in ast.iter_child_nodes(node)}
            for node in ast.walk(tree):
                if is_walk(node):
                    self.assertTrue(walks_at_once(above[node], node), f"{path.name}:{node.lineno}")

    def test_sets_are_not_kept(self):
        for path, tree in trees():
            above = {child: node for node in ast.walk(tree) for child in ast.iter_child_nodes(node)}
            for node in ast.walk(tree):
                self.assertNotIsInstance(node, ast.Set, path.name)
                if isinstance(node, ast.Call) and called(node) in ("set", "frozenset"):
                    outer = above[node]
                    self.assertTrue(isinstance(outer, ast.Compare) or called(outer) in ("sorted", "len"),
                                    f"{path.name}:{node.lineno}")

    def test_keywords(self):
        allowed = {"sorted": {"key", "reverse"}, "min": {"key", "default"}, "max": {"key", "default"},
                   "sum": {"start"}, "enumerate": {"start"}, "zip": {"strict"}}
        for where, node in nodes():
            if isinstance(node, ast.Call):
                self.assertLessEqual({word.arg for word in node.keywords}, allowed.get(called(node), set()), where)

    def test_functions(self):
        for where, node in nodes():
            if isinstance(node, ast.FunctionDef):
                self.assertLessEqual(node.end_lineno - node.lineno + 1, 40, where)
                self.assertEqual(node.decorator_list, [], where)
                given = node.args
                self.assertFalse(given.vararg or given.kwarg or given.kwonlyargs or given.posonlyargs, where)

    def test_classes(self):
        for where, node in nodes():
            if isinstance(node, ast.ClassDef):
                self.assertEqual((node.decorator_list, node.keywords), ([], []), where)
                self.assertLessEqual(len(node.bases), 1, where)
                for part in node.body:
                    self.assertTrue(isinstance(part, (ast.FunctionDef, ast.Pass)) or is_docstring(part), where)

    def test_the_top_of_each_file(self):
        for path, tree in trees():
            bound = []
            for node in tree.body:
                self.assertTrue(
                    isinstance(node, (ast.ImportFrom, ast.FunctionDef, ast.ClassDef, ast.Assign))
                    or is_docstring(node), f"{path.name}:{node.lineno}")
                bound.extend(names_bound(node))
            self.assertEqual(len(bound), len(set(bound)), path.name)


class NamesTest(unittest.TestCase):
    def test_imports_are_the_package_s_own(self):
        for where, node in nodes():
            if isinstance(node, ast.ImportFrom):
                self.assertEqual(node.level, 0, where)
                self.assertTrue(node.module.startswith("hadbeen."), where)
                source = PACKAGE / (node.module.split(".")[1] + ".py")
                defined = [name for part in ast.parse(source.read_text()).body
                           if not isinstance(part, ast.ImportFrom) for name in names_bound(part)]
                for alias in node.names:
                    self.assertIn(alias.name, defined, where)

    def test_no_two_files_draw_from_one_another(self):
        drawn = {path.stem: {node.module.split(".")[1] for node in tree.body if isinstance(node, ast.ImportFrom)}
                 for path, tree in trees()}
        self.assertEqual(drawn["__init__"], set())
        while drawn:
            free = [name for name, sources in drawn.items() if not sources & set(drawn)]
            self.assertTrue(free, f"a ring among {sorted(drawn)}")
            for name in free:
                drawn.pop(name)

    def test_python_s_own_names(self):
        for where, node in nodes():
            if isinstance(node, ast.Name) and hasattr(builtins, node.id):
                self.assertIsInstance(node.ctx, ast.Load, where)
                self.assertIn(node.id, OWN_NAMES, where)
            if isinstance(node, ast.arg):
                self.assertFalse(hasattr(builtins, node.arg), where)

    def test_names_are_plain(self):
        for where, node in nodes():
            for name in names_of(node):
                if name not in METHODS:
                    self.assertRegex(name, r"\A[A-Za-z][A-Za-z0-9_]*\Z", where)
                self.assertNotIn(name, OUT_NAMES, where)

    def test_methods_that_are_called(self):
        own = {part.name for where, node in nodes() if isinstance(node, ast.ClassDef)
               for part in node.body if isinstance(part, ast.FunctionDef)}
        for where, node in nodes():
            if isinstance(node, ast.Call) and isinstance(node.func, ast.Attribute):
                self.assertIn(node.func.attr, own | OWN_METHODS, where)

    def test_no_local_is_called_like_a_class_or_an_import_of_its_file(self):
        for path, tree in trees():
            taken = [name for part in tree.body if isinstance(part, (ast.ClassDef, ast.ImportFrom))
                     for name in names_bound(part)]
            for node in ast.walk(tree):
                if isinstance(node, ast.arg):
                    self.assertNotIn(node.arg, taken, path.name)
                if isinstance(node, ast.Name) and isinstance(node.ctx, ast.Store):
                    self.assertNotIn(node.id, taken, path.name)

    def test_no_name_is_a_method_here_and_a_value_there(self):
        methods, values = set(), set()
        for where, node in nodes():
            if isinstance(node, ast.ClassDef):
                methods |= {part.name for part in node.body if isinstance(part, ast.FunctionDef)}
            if isinstance(node, ast.Attribute) and isinstance(node.ctx, ast.Store):
                values.add(node.attr)
        self.assertEqual(methods & values, set())


def called(node):
    return node.func.id if isinstance(node, ast.Call) and isinstance(node.func, ast.Name) else None


def is_walk(node):
    if not isinstance(node, ast.Call):
        return False
    if isinstance(node.func, ast.Attribute):
        return node.func.attr in ("items", "keys", "values")
    return called(node) in ("zip", "enumerate", "reversed", "range")


def walks_at_once(outer, node):
    if isinstance(outer, (ast.For, ast.comprehension)):
        return outer.iter is node
    if not isinstance(outer, ast.Call) or outer.args[:1] != [node]:
        return False
    if called(outer) in ("min", "max"):
        return len(outer.args) == 1
    return called(outer) in ("list", "tuple", "dict", "sorted", "sum", "any", "all", "enumerate", "zip")


def is_docstring(node):
    return isinstance(node, ast.Expr) and isinstance(node.value, ast.Constant) and isinstance(node.value.value, str)


def names_bound(node):
    if isinstance(node, (ast.FunctionDef, ast.ClassDef)):
        return [node.name]
    if isinstance(node, ast.ImportFrom):
        return [alias.asname or alias.name for alias in node.names]
    if isinstance(node, ast.Assign):
        return [target.id for target in node.targets]
    return []


def names_of(node):
    if isinstance(node, ast.Name):
        return [node.id]
    if isinstance(node, ast.Attribute):
        return [node.attr]
    if isinstance(node, (ast.FunctionDef, ast.ClassDef)):
        return [node.name]
    if isinstance(node, ast.arg):
        return [node.arg]
    return []


if __name__ == "__main__":
    unittest.main()
