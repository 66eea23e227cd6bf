"""Some rules of ../shared/LANGUAGE.md that can be read off the files of the package."""

import ast
import pathlib
import re
import unittest

PACKAGE = pathlib.Path(__file__).resolve().parent.parent / "bookcuts"
BARRED_WORDS = [
    "type", "typing", "typing_extensions", "enum", "Enum", "IntEnum", "StrEnum", "Flag", "IntFlag", "Generic",
    "Protocol", "ABC", "ABCMeta", "namedtuple", "NamedTuple", "TypedDict", "TYPE_CHECKING", "abstractmethod",
]


def files():
    return sorted(path for path in PACKAGE.iterdir() if path.name != "__pycache__")


def trees():
    return [(path.name, ast.parse(path.read_text())) for path in files()]


class RulesTest(unittest.TestCase):
    def test_l1_only_python_files(self):
        self.assertIn("__init__.py", [path.name for path in files()])
        for path in files():
            self.assertRegex(path.name, r"\A[a-z0-9_]+\.py\Z")

    def test_l2_l16_imports_from_the_package_only(self):
        for name, tree in trees():
            for node in ast.walk(tree):
                self.assertNotIsInstance(node, ast.Import, name)
                if isinstance(node, ast.ImportFrom):
                    self.assertEqual(node.level, 0, name)
                    self.assertTrue(node.module.startswith("bookcuts."), name)

    def test_l10_sizes(self):
        for path in files():
            lines = path.read_text().split("\n")
            self.assertLessEqual(len(lines), 400, path.name)
            self.assertLessEqual(max(len(line) for line in lines), 120, path.name)
        for name, tree in trees():
            for node in ast.walk(tree):
                if isinstance(node, ast.FunctionDef):
                    self.assertLessEqual(node.end_lineno - node.lineno + 1, 40, (name, node.name))

    def test_l14_l27_signs(self):
        for path in files():
            self.assertIsNone(re.search(r"[^\n -~]", path.read_text()), path.name)
            self.assertNotIn("%", path.read_text(), path.name)

    def test_l17_words(self):
        for path in files():
            text = path.read_text()
            for word in BARRED_WORDS:
                self.assertIsNone(re.search(rf"\b{word}\b", text), (path.name, word))
            for word in ["dataclass", "overload", "contextmanager"]:
                self.assertNotIn(word, text, path.name)

    def test_l7_no_floats(self):
        for name, tree in trees():
            for node in ast.walk(tree):
                self.assertNotIsInstance(node, ast.Div, name)
                if isinstance(node, ast.Constant):
                    self.assertNotIsInstance(node.value, float, name)


if __name__ == "__main__":
    unittest.main()
