"""Some rules of ../shared/LANGUAGE.md that can be read off the files of the package."""

import ast
import builtins
import pathlib
import re
import unittest

PACKAGE = pathlib.Path(__file__).resolve().parent.parent / "bookcuts"
BARRED_WORDS = [
    "type", "typing", "typing_extensions", "enum", "Enum", "IntEnum", "StrEnum", "Flag", "IntFlag", "Generic",
    "Protocol", "ABC", "ABCMeta", "namedtuple", "NamedTuple", "TypedDict", "TYPE_CHECKING", "abstractmethod",
]

ALLOWED_BUILTINS = [
    "len", "range", "enumerate", "zip", "min", "max", "sum", "abs", "sorted", "reversed", "int", "str", "bool", "bytes",
    "list", "tuple", "dict", "set", "frozenset", "isinstance", "ord", "repr", "any", "all", "divmod", "ValueError",
]


def files():
    return sorted(path for path in PACKAGE.iterdir() if path.name != "__pycache__")


def trees():
    return [(path.name, ast.parse(path.read_text())) for path in files()]


class RulesTest(unittest.TestCase):
    def test_l1_only_python_files(self):
        self.assertIn("__init__.py", [path.name for path in files()])
        for path in files():
            self.assertRegex(path.name, r"\A[a-z0-9_]+\.py\Z")

    def test_l2_l16_imports_from_the_package_only(self):
        for name, tree in trees():
            for node in ast.walk(tree):
                self.assertNotIsInstance(node, ast.Import, name)
                if isinstance(node, ast.ImportFrom):
                    self.assertEqual(node.level, 0, name)
                    self.assertTrue(node.module.startswith("bookcuts."), name)

    def test_l10_sizes(self):
        for path in files():
            lines = path.read_text().split("\n")
            self.assertLessEqual(len(lines), 400, path.name)
            self.assertLessEqual(max(len(line) for line in lines), 120, path.name)
        for name, tree in trees():
            for node in ast.walk(tree):
                if isinstance(node, ast.FunctionDef):
                    self.assertLessEqual(node.end_lineno - node.lineno + 1, 40, (name, node.name))

    def test_l14_l27_signs(self):
        for path in files():
            self.assertIsNone(re.search(r"[^\n -~]", path.read_text()), path.name)
            self.assertNotIn("%", path.read_text(), path.name)

    def test_l17_words(self):
        for path in files():
            text = path.read_text()
            for word in BARRED_WORDS:
                self.assertIsNone(re.search(rf"\b{word}\b", text), (path.name, word))
            for word in ["dataclass", "overload", "contextmanager"]:
                self.assertNotIn(word, text, path.name)

    def test_l7_no_floats(self):
        for name, tree in trees():
            for node in ast.walk(tree):
                self.assertNotIsInstance(node, ast.Div, name)
                if isinstance(node, ast.Constant):
                    self.assertNotIsInstance(node.value, float, name)

    def test_l8_builtins(self):
        for name, tree in trees():
            for node in ast.walk(tree):
                if isinstance(node, ast.Name) and hasattr(builtins, node.id):
                    self.assertIn(node.id, ALLOWED_BUILTINS, name)
                    self.assertIsInstance(node.ctx, ast.Load, (name, node.id))
                if isinstance(node, ast.arg):
                    self.assertFalse(hasattr(builtins, node.arg), (name, node.arg))

    def test_l12_names(self):
        for name, tree in trees():
            for node in ast.walk(tree):
                for said in [getattr(node, "id", ""), getattr(node, "attr", ""), getattr(node, "arg", "")]:
                    self.assertFalse((said or "").startswith("_"), (name, said))

    def test_l15_no_name_of_an_import_for_another_thing(self):
        for name, tree in trees():
            taken = [part.name for node in ast.walk(tree) if isinstance(node, ast.ImportFrom) for part in node.names]
            taken += [node.name for node in tree.body if isinstance(node, ast.ClassDef)]
            for node in ast.walk(tree):
                if isinstance(node, ast.Name) and isinstance(node.ctx, ast.Store):
                    self.assertNotIn(node.id, taken, name)
                if isinstance(node, ast.arg):
                    self.assertNotIn(node.arg, taken, name)

    def test_l16_imports_name_the_file_that_defines_the_name_and_make_no_ring(self):
        defined = {name[:-3]: [getattr(node, "name", "") for node in tree.body] for name, tree in trees()}
        needs = {}
        for name, tree in trees():
            imports = [node for node in tree.body if isinstance(node, ast.ImportFrom)]
            needs[name[:-3]] = [node.module.split(".")[1] for node in imports]
            for node in imports:
                for part in node.names:
                    self.assertIn(part.name, defined[node.module.split(".")[1]], name)
        while needs:
            free = [name for name in needs if not any(other in needs for other in needs[name])]
            self.assertTrue(free, needs)
            needs = {name: needs[name] for name in needs if name not in free}

    def test_l18_no_name_is_a_method_and_an_attribute(self):
        methods, attributes = set(), set()
        for name, tree in trees():
            for node in ast.walk(tree):
                if isinstance(node, ast.ClassDef):
                    methods.update(part.name for part in node.body if isinstance(part, ast.FunctionDef))
                if isinstance(node, ast.Attribute) and isinstance(node.ctx, ast.Store):
                    attributes.add(node.attr)
        self.assertEqual(methods & attributes, set())


if __name__ == "__main__":
    unittest.main()
