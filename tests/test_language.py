"""The rules of the language subset that can be read off the files of the package."""

import ast
import builtins
import os
import unittest

TOP = os.path.join(os.path.dirname(os.path.abspath(__file__)), "..", "sightsums")
LIBRARY = {"heapq", "math", "itertools", "collections"}
BUILTINS = set(
    "len range enumerate zip min max sum abs sorted reversed int str bool list tuple dict set isinstance ord repr any "
    "all divmod super Exception ValueError TypeError KeyError IndexError LookupError ZeroDivisionError True False None"
    .split()
)
# Python's own shell, and doctest with it, puts the last value under the name _ among the builtins.
ALL_BUILTINS = set(dir(builtins)) - {"_"}
BARRED_NODES = (ast.AsyncFunctionDef, ast.Await, ast.Import, ast.Div, ast.MatMult)


def files():
    """The pairs of a file's name and its text, for all files of the package."""
    found = []
    for name in sorted(os.listdir(TOP)):
        path = os.path.join(TOP, name)
        if name != "__pycache__":
            with open(path, encoding="utf-8") as file:
                found.append((name, file.read()))
    return found


def assigned_names(tree):
    """All names of parameters, variables, functions and classes that the file gives a meaning."""
    for node in ast.walk(tree):
        if isinstance(node, (ast.FunctionDef, ast.ClassDef)) and node.name != "__init__":
            yield node.name
        elif isinstance(node, ast.arg):
            yield node.arg
        elif isinstance(node, ast.Name) and not isinstance(node.ctx, ast.Load):
            yield node.id


class Language(unittest.TestCase):
    def test_files(self):
        names = [name for name, _ in files()]
        self.assertIn("__init__.py", names)
        for name in names:
            self.assertRegex(name, r"^[a-z0-9_]+\.py$")

    def test_sizes_and_characters(self):
        for name, text in files():
            self.assertLessEqual(len(text.splitlines()), 399, name)
            self.assertLessEqual({sign for sign in text if sign != "\n"}, {chr(k) for k in range(32, 127)}, name)
            for line in text.splitlines():
                self.assertLessEqual(len(line), 120, (name, line))
            for node in ast.walk(ast.parse(text)):
                if isinstance(node, ast.FunctionDef):
                    self.assertLessEqual(node.end_lineno - node.lineno + 1, 40, (name, node.name))

    def test_imports(self):
        imported = {}
        for name, text in files():
            module = "sightsums." + name[:-3]
            body = ast.parse(text).body
            imports = [node for node in body if isinstance(node, ast.ImportFrom)]
            self.assertEqual(body[1:len(imports) + 1], imports, name)
            for node in imports:
                self.assertEqual(node.level, 0)
                if node.module not in LIBRARY:
                    self.assertRegex(node.module, r"^sightsums\.[a-z0-9_]+$")
                    imported.setdefault(module, set()).add(node.module)
                    self.assert_defined_there(node)
        while imported:
            free = [module for module, others in imported.items() if not others & set(imported)]
            self.assertTrue(free, "files import from each other")
            for module in free:
                del imported[module]

    def assert_defined_there(self, node):
        text = dict(files())[node.module.split(".")[1] + ".py"]
        body = ast.parse(text).body
        defined = {part.name for part in body if isinstance(part, (ast.FunctionDef, ast.ClassDef))}
        for part in body:
            if isinstance(part, ast.Assign):
                defined |= {target.id for target in part.targets}
        for alias in node.names:
            self.assertIn(alias.name, defined)
            self.assertIsNone(alias.asname)

    def test_names(self):
        for name, text in files():
            tree = ast.parse(text)
            imports = {alias.name for node in tree.body if isinstance(node, ast.ImportFrom) for alias in node.names}
            classes = {node.name for node in tree.body if isinstance(node, ast.ClassDef)}
            given = list(assigned_names(tree))
            self.assertFalse(set(given) & imports, name)
            self.assertFalse(set(given) & ALL_BUILTINS, name)
            self.assertTrue(all(given.count(one) == 1 for one in classes), name)
            used = {node.id for node in ast.walk(tree) if isinstance(node, ast.Name)}
            self.assertFalse(used & ALL_BUILTINS - BUILTINS, name)

    def test_nothing_barred(self):
        for name, text in files():
            tree = ast.parse(text)
            for node in ast.walk(tree):
                self.assertNotIsInstance(node, BARRED_NODES, name)
                if isinstance(node, (ast.FunctionDef, ast.ClassDef)):
                    self.assertEqual(node.decorator_list, [], name)
                    self.assertTrue(ast.get_docstring(node) or node.name == "__init__", node.name)
                if isinstance(node, ast.Constant):
                    self.assertNotIsInstance(node.value, (float, complex), name)

    def test_no_state_at_module_level(self):
        for name, text in files():
            for node in ast.parse(text).body:
                docstring = isinstance(node, ast.Expr) and isinstance(node.value, ast.Constant)
                kinds = (ast.ImportFrom, ast.FunctionDef, ast.ClassDef, ast.Assign)
                self.assertTrue(docstring or isinstance(node, kinds), (name, ast.dump(node)))


if __name__ == "__main__":
    unittest.main()
