"""Some rules of LANGUAGE.md that a look at the package's files can check."""

import ast
import pathlib
import re
import unittest

PACKAGE = pathlib.Path(__file__).resolve().parent.parent / "throwruns"
FILES = sorted(path for path in PACKAGE.iterdir() if path.name != "__pycache__")
BARRED = re.compile(
    r"\b(type|typing|typing_extensions|enum|Enum|IntEnum|StrEnum|Flag|IntFlag|Generic|Protocol|ABC|ABCMeta"
    r"|namedtuple|NamedTuple|TypedDict|TYPE_CHECKING|abstractmethod)\b|dataclass|overload|contextmanager")
NOT_WRITTEN = (
    ast.With, ast.Match, ast.Global, ast.Nonlocal, ast.Yield, ast.YieldFrom, ast.AsyncFunctionDef, ast.Await,
    ast.Import, ast.GeneratorExp, ast.NamedExpr, ast.Div)


class LanguageTest(unittest.TestCase):

    def test_files(self):
        for path in FILES:
            self.assertRegex(path.name, r"^[a-z0-9_]+\.py$")

    def test_characters_and_sizes(self):
        for path in FILES:
            text = path.read_text(encoding="utf-8")
            self.assertRegex(text, r"\A[ -~\n]*\Z", path.name)
            self.assertLessEqual(len(text.splitlines()), 400, path.name)
            self.assertLessEqual(max([len(line) for line in text.splitlines()], default=0), 120, path.name)
            self.assertIsNone(BARRED.search(text), path.name)

    def test_what_is_written(self):
        for path in FILES:
            for node in ast.walk(ast.parse(path.read_text(encoding="utf-8"))):
                self.assertNotIsInstance(node, NOT_WRITTEN, path.name)
                if isinstance(node, ast.FunctionDef):
                    self.assertLessEqual(node.end_lineno - node.lineno + 1, 40, node.name)
                    self.assertEqual(node.decorator_list, [], node.name)
                if isinstance(node, ast.ImportFrom):
                    self.assertRegex(node.module, r"^(throwruns\.|__future__$)")
                if isinstance(node, ast.Constant):
                    self.assertNotIsInstance(node.value, float, path.name)
                    if isinstance(node.value, str):
                        self.assertNotIn("%", node.value, path.name)

    def test_loops_powers_and_parameters(self):
        for path in FILES:
            for node in ast.walk(ast.parse(path.read_text(encoding="utf-8"))):
                case = (path.name, getattr(node, "lineno", None))
                if isinstance(node, (ast.For, ast.While)):
                    self.assertEqual(node.orelse, [], case)
                if isinstance(node, ast.BinOp) and isinstance(node.op, ast.Pow):
                    self.assertIsInstance(node.right, ast.Constant, case)
                if isinstance(node, ast.arguments):
                    self.assertEqual((node.vararg, node.kwarg, node.posonlyargs), (None, None, []), case)
                if isinstance(node, ast.Compare) and isinstance(node.ops[0], (ast.Is, ast.IsNot)):
                    self.assertIn(getattr(node.comparators[0], "value", "other"), (None, True, False), case)
                if isinstance(node, ast.Call):
                    self.assertNotIn(getattr(node.func, "id", None), ("chr", "print", "open", "map", "filter"), case)

    def test_names_are_imported_from_where_they_are_defined(self):
        defined = {}
        for path in FILES:
            names = set()
            for node in ast.parse(path.read_text(encoding="utf-8")).body:
                if isinstance(node, (ast.FunctionDef, ast.ClassDef)):
                    names.add(node.name)
                if isinstance(node, ast.Assign):
                    names.update([target.id for target in node.targets])
            defined[f"throwruns.{path.stem}"] = names
        for path in FILES:
            for node in ast.walk(ast.parse(path.read_text(encoding="utf-8"))):
                if isinstance(node, ast.ImportFrom):
                    for name in node.names:
                        self.assertIn(name.name, defined[node.module], path.name)


if __name__ == "__main__":
    unittest.main()
