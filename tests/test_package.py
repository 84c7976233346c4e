"""What holds of the package's files as a whole: no clock, chance or files ([1]), and plain bounds of form."""

import ast
import builtins
import re
import unittest
from pathlib import Path

PACKAGE = Path(__file__).resolve().parent.parent / "ringcede"

# Python's own names that reckon with values alone: none of them reaches a clock, chance or a file.
PLAIN_NAMES = set(
    "len range enumerate zip min max sum abs sorted reversed int str bool bytes list tuple dict set frozenset "
    "isinstance ord repr any all divmod Exception ValueError TypeError KeyError IndexError LookupError "
    "ZeroDivisionError ArithmeticError OverflowError RuntimeError NotImplementedError AttributeError "
    "StopIteration object float".split()
)
BARRED_WORDS = re.compile(
    r"\b(type|typing|typing_extensions|enum|Enum|IntEnum|StrEnum|Flag|IntFlag|Generic|Protocol|ABC|ABCMeta|"
    r"namedtuple|NamedTuple|TypedDict|TYPE_CHECKING|abstractmethod)\b|dataclass|overload|contextmanager"
)


def files():
    return sorted(path for path in PACKAGE.rglob("*") if path.is_file() and path.parent.name != "__pycache__")


def nodes(kinds):
    return [
        (path.name, node)
        for path in files()
        for node in ast.walk(ast.parse(path.read_text()))
        if isinstance(node, kinds)
    ]


class PackageTest(unittest.TestCase):

    def test_files(self):
        self.assertIn(PACKAGE / "__init__.py", files())
        for path in files():
            self.assertRegex(path.name, r"\A[a-z0-9_]+\.py\Z")

    def test_only_own_modules_are_imported(self):
        for file, node in nodes((ast.Import, ast.ImportFrom)):
            with self.subTest(file=file, line=node.lineno):
                self.assertIsInstance(node, ast.ImportFrom)
                self.assertEqual(node.level, 0)
                self.assertRegex(node.module, r"\A(ringcede\.[a-z_]+|__future__)\Z")
                self.assertNotIn("*", [alias.name for alias in node.names])

    def test_only_plain_names_of_pythons_own(self):
        for file, node in nodes(ast.Name):
            if hasattr(builtins, node.id):
                with self.subTest(file=file, line=node.lineno):
                    self.assertIn(node.id, PLAIN_NAMES)

    def test_no_floats(self):
        for file, node in nodes((ast.Div, ast.Constant)):
            with self.subTest(file=file):
                self.assertNotIsInstance(node, ast.Div)
                self.assertNotIsInstance(node.value, (float, complex))

    def test_no_name_is_a_method_and_a_value(self):
        methods = {
            part.name for file, node in nodes(ast.ClassDef) for part in node.body if isinstance(part, ast.FunctionDef)
        }
        values = {node.attr for file, node in nodes(ast.Attribute) if isinstance(node.ctx, ast.Store)}
        self.assertEqual(methods & values, set())

    def test_no_parameter_or_local_hides_another_name(self):
        for path in files():
            tree = ast.parse(path.read_text())
            drawn = {alias.name for node in ast.walk(tree) if isinstance(node, ast.ImportFrom) for alias in node.names}
            drawn |= {node.name for node in ast.walk(tree) if isinstance(node, ast.ClassDef)}
            given = {node.arg for node in ast.walk(tree) if isinstance(node, ast.arg)}
            given |= {
                node.id for node in ast.walk(tree) if isinstance(node, ast.Name) and isinstance(node.ctx, ast.Store)
            }
            with self.subTest(file=path.name):
                self.assertEqual({name for name in given if name in drawn or hasattr(builtins, name)}, set())
                self.assertEqual({name for name in given if name.startswith("_")}, set())

    def test_functions_are_small(self):
        for file, node in nodes(ast.FunctionDef):
            with self.subTest(file=file, line=node.lineno):
                self.assertLessEqual(node.end_lineno - node.lineno + 1, 40)

    def test_rows_and_signs(self):
        for path in files():
            rows = path.read_text().split("\n")
            self.assertLessEqual(len(rows), 401)
            for number, row in enumerate(rows, start=1):
                with self.subTest(file=path.name, line=number):
                    self.assertRegex(row, r"\A[ -~]{0,120}\Z")
                    self.assertIsNone(BARRED_WORDS.search(row))


if __name__ == "__main__":
    unittest.main()
