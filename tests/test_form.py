"""The form of the package's files: sizes, characters, imports, and words that are not used."""

import ast
import pathlib
import re
import unittest

PACKAGE = pathlib.Path(__file__).resolve().parent.parent / "tellalike"
LIBRARY = ("heapq", "math", "itertools", "collections", "__future__")


class FormTest(unittest.TestCase):

    def setUp(self):
        self.texts = {path.stem: path.read_text("utf-8") for path in sorted(PACKAGE.glob("*.py"))}
        self.trees = {name: ast.parse(text) for name, text in self.texts.items()}

    def test_nothing_but_python_files(self):
        others = [path.name for path in PACKAGE.iterdir() if path.name != "__pycache__" and path.suffix != ".py"]
        self.assertEqual(others, [])
        self.assertIn("__init__", self.texts)

    def test_lines_and_characters(self):
        for name, text in self.texts.items():
            lines = text.split("\n")
            self.assertLessEqual(len(lines), 400, name)
            self.assertLessEqual(max(map(len, lines)), 120, name)
            self.assertTrue(all(sign == "\n" or " " <= sign <= "~" for sign in text), name)

    def test_functions_are_short(self):
        for name, tree in self.trees.items():
            for node in ast.walk(tree):
                if isinstance(node, ast.FunctionDef):
                    self.assertLessEqual(node.end_lineno - node.lineno + 1, 40, (name, node.name))

    def test_imports(self):
        needs = {}
        for name, tree in self.trees.items():
            self.assertFalse([node for node in ast.walk(tree) if isinstance(node, ast.Import)], name)
            found = [node for node in ast.walk(tree) if isinstance(node, ast.ImportFrom)]
            self.assertTrue(all(node in tree.body and node.level == 0 for node in found), name)
            modules = [node.module for node in found if node.module not in LIBRARY]
            self.assertTrue(all(module.startswith("tellalike.") for module in modules), name)
            needs[name] = {module.split(".")[1] for module in modules}
        while needs:
            free = [name for name in needs if not needs[name] & set(needs)]
            self.assertTrue(free, "these import from each other: " + ", ".join(needs))
            for name in free:
                del needs[name]

    def test_imported_names_are_used_and_defined_where_they_come_from(self):
        for name, tree in self.trees.items():
            for node in [node for node in tree.body if isinstance(node, ast.ImportFrom) and node.module not in LIBRARY]:
                source = self.trees[node.module.split(".")[1]]
                defined = [item.name for item in source.body if isinstance(item, (ast.FunctionDef, ast.ClassDef))]
                defined += [item.targets[0].id for item in source.body if isinstance(item, ast.Assign)]
                for alias in node.names:
                    self.assertIn(alias.name, defined, name)
                    self.assertGreaterEqual(len(re.findall(rf"\b{alias.name}\b", self.texts[name])), 2, (name, alias.name))

    def test_no_other_values_or_statements(self):
        barred = (ast.AsyncFunctionDef, ast.AsyncFor, ast.Await, ast.Div, ast.MatMult)
        for name, tree in self.trees.items():
            for node in ast.walk(tree):
                self.assertNotIsInstance(node, barred, (name, getattr(node, "lineno", 0)))
                if isinstance(node, ast.Constant):
                    self.assertNotIsInstance(node.value, (float, complex, bytes), (name, node.lineno))
                if isinstance(node, ast.Name):
                    self.assertNotIn(node.id, ("type", "id", "hash", "print", "open", "eval", "exec", "filter", "map"), name)


if __name__ == "__main__":
    unittest.main()
