"""The rules of LANGUAGE.md that a look at the text of the package can check."""

import ast
import pathlib
import re
import unittest

PACKAGE = pathlib.Path(__file__).resolve().parent.parent / "raisekeys"
BARRED = re.compile(
    r"\b(type|typing|typing_extensions|enum|Enum|IntEnum|StrEnum|Flag|IntFlag|Generic|Protocol|ABC|ABCMeta|namedtuple"
    r"|NamedTuple|TypedDict|TYPE_CHECKING|abstractmethod)\b|dataclass|overload|contextmanager")


def sources():
    return {path.name: path.read_bytes().decode("ascii") for path in sorted(PACKAGE.glob("*.py"))}


class Language(unittest.TestCase):
    def test_the_folder_contains_only_python_files(self):
        others = [path.name for path in PACKAGE.iterdir() if path.suffix != ".py" and path.name != "__pycache__"]
        self.assertEqual(others, [])
        self.assertIn("__init__.py", sources())

    def test_sizes(self):
        for name, text in sources().items():
            self.assertLessEqual(len(text.splitlines()), 400, name)
            for row in text.splitlines():
                self.assertLessEqual(len(row), 120, (name, row))
            for node in ast.walk(ast.parse(text)):
                if isinstance(node, ast.FunctionDef):
                    self.assertLessEqual(node.end_lineno - node.lineno + 1, 40, (name, node.name))

    def test_characters_and_barred_words(self):
        for name, text in sources().items():
            self.assertEqual([sign for sign in text if sign != "\n" and not " " <= sign <= "~"], [], name)
            self.assertIsNone(BARRED.search(text), name)

    def test_imports_are_from_modules_of_the_package(self):
        for name, text in sources().items():
            for node in ast.walk(ast.parse(text)):
                self.assertNotIsInstance(node, ast.Import, name)
                if isinstance(node, ast.ImportFrom):
                    self.assertTrue(node.level == 0 and node.module.startswith("raisekeys."), (name, node.module))

    def test_no_name_is_both_a_method_and_an_attribute(self):
        methods, attributes = set(), set()
        for text in sources().values():
            for node in ast.walk(ast.parse(text)):
                if isinstance(node, ast.ClassDef):
                    methods |= {item.name for item in node.body if isinstance(item, ast.FunctionDef)}
                if isinstance(node, ast.Attribute) and isinstance(node.ctx, ast.Store):
                    attributes.add(node.attr)
        self.assertEqual(methods & attributes, set())


if __name__ == "__main__":
    unittest.main()
