"""The form of the package's files: sizes, characters, imports, and words that are not used."""

import ast
import builtins
import pathlib
import re
import unittest

PACKAGE = pathlib.Path(__file__).resolve().parent.parent / "tellalike"
LIBRARY = ("heapq", "math", "itertools", "collections", "__future__")


class FormTest(unittest.TestCase):

    def setUp(self):
        self.texts = {path.stem: path.read_text("utf-8") for path in sorted(PACKAGE.glob("*.py"))}
        self.trees = {name: ast.parse(text) for name, text in self.texts.items()}

    def test_nothing_but_python_files(self):
        others = [path.name for path in PACKAGE.iterdir() if path.name != "__pycache__" and path.suffix != ".py"]
        self.assertEqual(others, [])
        self.assertIn("__init__", self.texts)

    def test_lines_and_characters(self):
        for name, text in self.texts.items():
            lines = text.split("\n")
            self.assertLessEqual(len(lines), 400, name)
            self.assertLessEqual(max(map(len, lines)), 120, name)
            self.assertTrue(all(sign == "\n" or " " <= sign <= "~" for sign in text), name)

    def test_functions_are_short(self):
        for name, tree in self.trees.items():
            for node in ast.walk(tree):
                if isinstance(node, ast.FunctionDef):
                    self.assertLessEqual(node.end_lineno - node.lineno + 1, 40, (name, node.name))

    def test_imports(self):
        needs = {}
        for name, tree in self.trees.items():
            self.assertFalse([node for node in ast.walk(tree) if isinstance(node, ast.Import)], name)
            found = [node for node in ast.walk(tree) if isinstance(node, ast.ImportFrom)]
            self.assertTrue(all(node in tree.body and node.level == 0 for node in found), name)
            modules = [node.module for node in found if node.module not in LIBRARY]
            self.assertTrue(all(module.startswith("tellalike.") for module in modules), name)
            needs[name] = {module.split(".")[1] for module in modules}
        while needs:
            free = [name for name in needs if not needs[name] & set(needs)]
            self.assertTrue(free, "these import from each other: " + ", ".join(needs))
            for name in free:
                del needs[name]

    def test_imported_names_are_used_and_defined_where_they_come_from(self):
        for name, tree in self.trees.items():
            for node in [node for node in tree.body if isinstance(node, ast.ImportFrom) and node.module not in LIBRARY]:
                source = self.trees[node.module.split(".")[1]]
                defined = [item.name for item in source.body if isinstance(item, (ast.FunctionDef, ast.ClassDef))]
                defined += [item.targets[0].id for item in source.body if isinstance(item, ast.Assign)]
                for alias in node.names:
                    self.assertIn(alias.name, defined, name)
                    self.assertGreaterEqual(len(re.findall(rf"\b{alias.name}\b", self.texts[name])), 2, (name, alias.name))

    def test_no_other_values_or_statements(self):
        barred = (ast.AsyncFunctionDef, ast.AsyncFor, ast.Await, ast.Div, ast.MatMult)
        for name, tree in self.trees.items():
            for node in ast.walk(tree):
                self.assertNotIsInstance(node, barred, (name, getattr(node, "lineno", 0)))
                if isinstance(node, ast.Constant):
                    self.assertNotIsInstance(node.value, (float, complex, bytes), (name, node.lineno))
                if isinstance(node, ast.Name):
                    self.assertNotIn(node.id, ("type", "id", "hash", "print", "open", "eval", "exec", "filter", "map"), name)

    def test_builtins(self):
        allowed = set(
            "len range enumerate zip min max sum abs sorted reversed int str bool bytes list tuple dict set frozenset isinstance ord chr"
            " repr any all divmod pow Exception ValueError TypeError KeyError IndexError".split()
        )
        for name, tree in self.trees.items():
            for node in ast.walk(tree):
                if isinstance(node, ast.Name) and hasattr(builtins, node.id):
                    self.assertIn(node.id, allowed, (name, node.lineno))
                    self.assertIsInstance(node.ctx, ast.Load, (name, node.lineno))
                if isinstance(node, ast.arg):
                    self.assertFalse(hasattr(builtins, node.arg), (name, node.lineno))

    def test_methods_and_attributes(self):
        builtin = set("append copy count endswith extend find get index insert items join keys partition pop setdefault split startswith strip"
                      " values bit_length add".split())
        own, attributes = set(), set()
        for tree in self.trees.values():
            for node in ast.walk(tree):
                if isinstance(node, ast.ClassDef):
                    own |= {item.name for item in node.body if isinstance(item, ast.FunctionDef)}
                if isinstance(node, ast.Attribute) and isinstance(node.ctx, ast.Store):
                    attributes.add(node.attr)
        self.assertFalse(own & attributes)
        self.assertFalse((own | attributes) & builtin)
        for name, tree in self.trees.items():
            for node in ast.walk(tree):
                if isinstance(node, ast.Call) and isinstance(node.func, ast.Attribute):
                    self.assertIn(node.func.attr, own | builtin, (name, node.lineno))
                elif isinstance(node, ast.Attribute):
                    self.assertIn(node.attr, attributes | own | builtin, (name, node.lineno))

    def test_is_only_with_none_true_and_false(self):
        for name, tree in self.trees.items():
            for node in [node for node in ast.walk(tree) if isinstance(node, ast.Compare)]:
                for sign, other in zip(node.ops, node.comparators):
                    if isinstance(sign, (ast.Is, ast.IsNot)):
                        self.assertIsInstance(other, ast.Constant, (name, node.lineno))
                        self.assertIn(other.value, (None, True, False), (name, node.lineno))

    def test_sets_are_not_passed_on(self):
        for name, tree in self.trees.items():
            above = {child: node for node in ast.walk(tree) for child in ast.iter_child_nodes(node)}
            for node in ast.walk(tree):
                made = isinstance(node, ast.Call) and isinstance(node.func, ast.Name) and node.func.id == "set"
                if made or isinstance(node, (ast.Set, ast.SetComp)):
                    holder = above[node]
                    right = isinstance(holder, ast.Assign) or isinstance(holder, ast.Call) and holder.func.id in ("sorted", "len")
                    self.assertTrue(right, (name, node.lineno))

    def test_no_generators_and_no_sorting_in_place(self):
        """The package has a class with __eq__, so any, all, sorted and the like take lists."""
        for name, tree in self.trees.items():
            for node in ast.walk(tree):
                self.assertNotIsInstance(node, (ast.GeneratorExp, ast.Yield, ast.YieldFrom, ast.Global, ast.Lambda), (name, getattr(node, "lineno", 0)))
                if isinstance(node, ast.Attribute):
                    self.assertNotEqual(node.attr, "sort", (name, node.lineno))

    def test_no_per_cent_and_no_other_escapes(self):
        for name, tree in self.trees.items():
            for node in ast.walk(tree):
                self.assertNotIsInstance(node, (ast.Mod, ast.Pow), name)
                if isinstance(node, ast.Constant) and isinstance(node.value, str):
                    self.assertNotIn("%", node.value, (name, node.lineno))

    def test_each_name_is_bound_once_and_hides_nothing(self):
        for name, tree in self.trees.items():
            above = [alias.name for node in tree.body if isinstance(node, ast.ImportFrom) for alias in node.names]
            classes = [node.name for node in tree.body if isinstance(node, ast.ClassDef)]
            functions = [node.name for node in tree.body if isinstance(node, ast.FunctionDef)]
            values = [node.targets[0].id for node in tree.body if isinstance(node, ast.Assign)]
            bound = above + classes + functions + values
            self.assertEqual(len(bound), len(set(bound)), name)
            hidden = set(above) | set(classes) | set(dir(builtins))
            for node in ast.walk(tree):
                if isinstance(node, ast.arg):
                    self.assertNotIn(node.arg, hidden, (name, node.lineno))
                if isinstance(node, ast.Name) and isinstance(node.ctx, ast.Store):
                    self.assertNotIn(node.id, hidden, (name, node.lineno))

    def test_names(self):
        for name, tree in self.trees.items():
            self.assertRegex(name, r"^(__init__|[a-z][a-z_]*)$")
            for node in ast.walk(tree):
                names = [node.id] if isinstance(node, ast.Name) else [node.attr] if isinstance(node, ast.Attribute) else []
                for each in names:
                    self.assertRegex(each, r"^(_?[A-Za-z][A-Za-z0-9_]*|_|__init__)$", (name, node.lineno))
                if isinstance(node, ast.Name) and isinstance(node.ctx, ast.Load):
                    self.assertNotEqual(node.id, "_", (name, node.lineno))

    def test_module_level(self):
        for name, tree in self.trees.items():
            for k, node in enumerate(tree.body):
                if isinstance(node, ast.Expr):
                    self.assertEqual((k, isinstance(node.value, ast.Constant)), (0, True), name)
                else:
                    self.assertIsInstance(node, (ast.ImportFrom, ast.FunctionDef, ast.ClassDef, ast.Assign), name)
                if isinstance(node, (ast.FunctionDef, ast.ClassDef)):
                    self.assertEqual(node.decorator_list, [], name)

    def test_what_a_loop_goes_over_is_not_changed_in_it(self):
        changing = ("append", "extend", "insert", "pop", "remove", "clear", "update", "setdefault", "add", "discard", "reverse")
        for name, tree in self.trees.items():
            for loop in [node for node in ast.walk(tree) if isinstance(node, ast.For)]:
                over = {ast.unparse(node) for node in ast.walk(loop.iter) if isinstance(node, (ast.Name, ast.Attribute))}
                for node in [node for line in loop.body for node in ast.walk(line)]:
                    if isinstance(node, ast.Call) and isinstance(node.func, ast.Attribute) and node.func.attr in changing:
                        self.assertNotIn(ast.unparse(node.func.value), over, (name, node.lineno))
                    if isinstance(node, ast.Subscript) and isinstance(node.ctx, (ast.Store, ast.Del)):
                        self.assertNotIn(ast.unparse(node.value), over, (name, node.lineno))

    def test_words_that_are_not_used(self):
        words = r"\b(register|mro|elements|open|input|law|type|typing|enum|dataclass|overload)\b"
        for name, tree in self.trees.items():
            docstrings = [ast.get_docstring(node, clean=False) or "" for node in ast.walk(tree)
                          if isinstance(node, (ast.Module, ast.ClassDef, ast.FunctionDef))]
            text = self.texts[name]
            for docstring in docstrings:
                text = text.replace(docstring, "")
            text = re.sub(r"#.*", "", text)
            self.assertIsNone(re.search(words, text), name)
            self.assertNotIn("_wall", self.texts[name])


if __name__ == "__main__":
    unittest.main()
