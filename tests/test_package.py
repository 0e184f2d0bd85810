"""The package as a whole: its interface, and the bounds of its language."""

import ast
import importlib
import inspect
import unittest
from pathlib import Path

PACKAGE = Path(__file__).resolve().parent.parent / "mazeguide"

FUNCTIONS = {
    "mazeguide.mazes": {
        "checked": ["maze"],
        "keys_in": ["maze", "room"],
        "taken": ["maze", "room", "held"],
    },
    "mazeguide.walks": {
        "opens": ["door", "held"],
        "steps": ["maze", "room", "held"],
        "walked": ["maze", "walk"],
    },
    "mazeguide.rows": {
        "layers": ["maze", "start"],
        "nearest": ["maze", "start"],
    },
    "mazeguide.guides": {
        "come": ["maze", "start"],
        "guide": ["maze", "start", "goal"],
    },
    "mazeguide.notes": {
        "written": ["maze"],
        "read": ["text"],
    },
}

CLASSES = {
    "mazeguide.errors": ["MazeError", "NoMaze", "NoRoom", "NoKey", "TooMany", "NoDoor", "Shut"],
}


def sources():
    """Each file of the package with its text."""
    return [(path, path.read_text(encoding="utf-8")) for path in sorted(PACKAGE.rglob("*.py"))]


class Interface(unittest.TestCase):
    def test_each_function_stands_in_its_file_with_its_arguments(self):
        for module_name, functions in FUNCTIONS.items():
            module = importlib.import_module(module_name)
            for name, arguments in functions.items():
                with self.subTest(name):
                    function = getattr(module, name)
                    self.assertTrue(inspect.isfunction(function))
                    self.assertEqual(function.__module__, module_name)
                    self.assertEqual(list(inspect.signature(function).parameters), arguments)

    def test_each_class_stands_in_its_file(self):
        for module_name, names in CLASSES.items():
            module = importlib.import_module(module_name)
            for name in names:
                with self.subTest(name):
                    self.assertTrue(inspect.isclass(getattr(module, name)))
                    self.assertEqual(getattr(module, name).__module__, module_name)


class Language(unittest.TestCase):
    def test_only_files_of_the_package_are_imported(self):
        for path, text in sources():
            for node in ast.walk(ast.parse(text)):
                self.assertNotIsInstance(node, ast.Import, path)
                if isinstance(node, ast.ImportFrom):
                    self.assertTrue(node.module.startswith("mazeguide."), (path, node.module))

    def test_no_builtin_that_reaches_out(self):
        barred = {"open", "input", "print", "exec", "eval", "__import__", "hash", "id"}
        for path, text in sources():
            names = {node.id for node in ast.walk(ast.parse(text)) if isinstance(node, ast.Name)}
            self.assertEqual(names & barred, set(), path)

    def test_plain_characters_and_short_lines(self):
        for path, text in sources():
            self.assertTrue(text.isascii(), path)
            self.assertNotIn("\t", text, path)
            lines = text.splitlines()
            self.assertLess(len(lines), 400, path)
            self.assertLessEqual(max([len(line) for line in lines], default=0), 120, path)

    def test_short_functions(self):
        for path, text in sources():
            for node in ast.walk(ast.parse(text)):
                if isinstance(node, ast.FunctionDef):
                    self.assertLessEqual(node.end_lineno - node.lineno + 1, 40, (path, node.name))

    def test_the_folder_holds_nothing_but_the_files(self):
        for path in PACKAGE.iterdir():
            if path.name != "__pycache__":
                self.assertEqual((path.is_file(), path.suffix), (True, ".py"), path)


if __name__ == "__main__":
    unittest.main()
