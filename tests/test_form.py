"""What a reading of the package's files can tell of the rules of ../shared/LANGUAGE.md."""

import ast
import builtins
import re
import unittest
import warnings
from pathlib import Path

PACKAGE = Path(__file__).resolve().parent.parent / "swayhalls"
FILES = sorted(PACKAGE.rglob("*.py"))
BUILTINS = set(
    "len range enumerate zip min max sum abs sorted reversed int str bool bytes list tuple dict set frozenset "
    "isinstance ord repr any all divmod iter next super property staticmethod classmethod object Exception "
    "ValueError TypeError KeyError IndexError LookupError ZeroDivisionError ArithmeticError OverflowError "
    "RuntimeError NotImplementedError AttributeError StopIteration NotImplemented".split())
BARRED_WORDS = re.compile(
    r"\b(type|typing|typing_extensions|enum|Enum|IntEnum|StrEnum|Flag|IntFlag|Generic|Protocol|ABC|ABCMeta|namedtuple"
    r"|NamedTuple|TypedDict|TYPE_CHECKING|abstractmethod)\b|dataclass|overload|contextmanager")
BARRED_NAMES = set("register mro elements open input version_info with_traceback add_note format format_map".split())
BARRED_NODES = (ast.Global, ast.AsyncFunctionDef, ast.AsyncFor, ast.AsyncWith, ast.Await, ast.Import, ast.Div)
TAKE_LISTS = {"any", "all", "min", "max", "sum", "sorted"}
METHODS = set(
    "__init__ __eq__ __repr__ __str__ __len__ __enter__ __exit__ __call__ __iter__ __contains__ __bool__".split())
DEFS = (ast.FunctionDef, ast.ClassDef)


def trees():
    for path in FILES:
        yield path, ast.parse(path.read_text())


def nodes(kind):
    for path, tree in trees():
        for node in ast.walk(tree):
            if isinstance(node, kind):
                yield f"{path.name}:{getattr(node, 'lineno', 0)}", node


class Files(unittest.TestCase):
    def test_only_plain_files(self):
        for path in PACKAGE.rglob("*"):
            if "__pycache__" not in path.parts:
                self.assertRegex(path.name, r"^[a-z0-9_]+\.py$")
        self.assertIn(PACKAGE / "__init__.py", FILES)

    def test_sizes_and_signs(self):
        for path in FILES:
            text = path.read_text()
            self.assertLessEqual(len(text.splitlines()), 400, path)
            self.assertRegex(text, r"\A[ -~\n]*\Z", path)
            self.assertLessEqual(max(map(len, text.splitlines()), default=0), 120, path)
            self.assertIsNone(BARRED_WORDS.search(text), path)

    def test_python_warns_of_nothing(self):
        with warnings.catch_warnings():
            warnings.simplefilter("error")
            for path in FILES:
                compile(path.read_text(), str(path), "exec")


class Code(unittest.TestCase):
    def test_functions_are_short_and_undecorated(self):
        for at, node in nodes(ast.FunctionDef):
            self.assertLessEqual(node.end_lineno - node.lineno + 1, 40, at)
            self.assertEqual(node.args.posonlyargs, [], at)
            self.assertEqual(node.decorator_list, [], at)

    def test_imports_name_the_file_of_the_package(self):
        for at, node in nodes(ast.ImportFrom):
            self.assertEqual(node.level, 0, at)
            self.assertTrue(node.module.startswith("swayhalls."), at)
            defining = ast.parse((PACKAGE / f"{node.module.split('.', 1)[1]}.py").read_text())
            bound = {one.name for one in defining.body if isinstance(one, DEFS)}
            bound |= {name.id for one in defining.body if isinstance(one, ast.Assign) for name in one.targets}
            self.assertLessEqual({one.name for one in node.names}, bound, at)

    def test_barred_statements_and_signs(self):
        for at, node in nodes(BARRED_NODES):
            self.fail(f"{at} {node}")

    def test_literals(self):
        for at, node in nodes(ast.Constant):
            self.assertNotIsInstance(node.value, (float, complex), at)
            if isinstance(node.value, str):
                self.assertNotIn("%", node.value, at)

    def test_builtins(self):
        for at, node in nodes(ast.Name):
            if hasattr(builtins, node.id):
                self.assertIn(node.id, BUILTINS, at)
                self.assertIsInstance(node.ctx, ast.Load, at)

    def test_no_generator_where_objects_compare(self):
        for at, node in nodes(ast.Call):
            if isinstance(node.func, ast.Name) and node.func.id in TAKE_LISTS:
                self.assertFalse([one for one in node.args if isinstance(one, ast.GeneratorExp)], at)

    def test_names(self):
        for at, node in nodes((ast.Name, ast.Attribute, ast.arg, *DEFS)):
            name = getattr(node, "id", None) or getattr(node, "attr", None) or getattr(node, "arg", None) or node.name
            self.assertNotIn(name, BARRED_NAMES, at)
            self.assertTrue(not name.startswith("_") or name in METHODS, at)
            if isinstance(node, ast.arg):
                self.assertFalse(hasattr(builtins, name), at)

    def test_locals_have_no_name_of_an_import_or_a_builtin(self):
        for path, tree in trees():
            imports = [node for node in tree.body if isinstance(node, ast.ImportFrom)]
            taken = {one.asname or one.name for node in imports for one in node.names}
            taken |= {node.name for node in tree.body if isinstance(node, ast.ClassDef)}
            for node in ast.walk(tree):
                name = node.arg if isinstance(node, ast.arg) else getattr(node, "id", None)
                if isinstance(node, ast.arg) or isinstance(getattr(node, "ctx", None), ast.Store):
                    self.assertNotIn(name, taken, f"{path.name}:{node.lineno}")
                    self.assertFalse(name and hasattr(builtins, name), f"{path.name}:{node.lineno}")

    def test_no_two_files_import_from_each_other(self):
        ahead = {path.stem: {node.module.split(".")[1] for node in tree.body if isinstance(node, ast.ImportFrom)}
                 for path, tree in trees()}
        while ahead:
            free = {name for name, needs in ahead.items() if not needs & set(ahead)}
            self.assertTrue(free, ahead)
            ahead = {name: needs for name, needs in ahead.items() if name not in free}

    def test_powers_are_literal(self):
        for at, node in nodes(ast.BinOp):
            if isinstance(node.op, ast.Pow):
                self.assertIsInstance(node.right, ast.Constant, at)
                self.assertIn(node.right.value, range(65), at)

    def test_is_stands_beside_none_true_and_false_alone(self):
        for at, node in nodes(ast.Compare):
            for sign, right in zip(node.ops, node.comparators):
                if isinstance(sign, (ast.Is, ast.IsNot)):
                    self.assertTrue(isinstance(right, ast.Constant) and right.value in (None, True, False), at)

    def test_len_returns_a_len(self):
        for at, node in nodes(ast.FunctionDef):
            if node.name == "__len__":
                for one in ast.walk(node):
                    if isinstance(one, ast.Return):
                        self.assertEqual(ast.unparse(one.value)[:4], "len(", at)

    def test_sets_are_kept_in_locals_alone(self):
        for at, node in nodes(ast.Assign):
            if isinstance(node.value, ast.Call) and getattr(node.value.func, "id", None) == "set":
                self.assertEqual([type(target) for target in node.targets], [ast.Name], at)

    def test_no_try_around_errors_of_pythons_own(self):
        for at, node in nodes(ast.ExceptHandler):
            self.assertIsNotNone(node.type, at)
            self.assertNotIn(getattr(node.type, "id", None), ("Exception", "TypeError", "BaseException"), at)

    def test_no_name_is_a_method_and_a_field(self):
        methods = {one.name for _, node in nodes(ast.ClassDef) for one in node.body if isinstance(one, ast.FunctionDef)}
        fields = {node.attr for _, node in nodes(ast.Attribute) if isinstance(node.ctx, ast.Store)}
        self.assertEqual(methods & fields, set())

    def test_module_level_holds_no_code(self):
        for path, tree in trees():
            for at, node in enumerate(tree.body):
                docstring = at == 0 and isinstance(node, ast.Expr) and isinstance(node.value, ast.Constant)
                self.assertTrue(docstring or isinstance(node, (ast.ImportFrom, ast.Assign, *DEFS)), path)


if __name__ == "__main__":
    unittest.main()
