"""Those rules of the language that can be counted: files, sizes, characters and imports of the package."""

import ast
import pathlib
import re
import unittest

PACKAGE = pathlib.Path(__file__).resolve().parent.parent / "surelyhas"
LIBRARY = {"heapq", "math", "itertools"}
# Names that L12 bars, also with digits and underscores behind them.
BARRED = re.compile(r"(_cold|_tuplegetter|_outside|_record|_written_out|_member_names)[0-9_]*")
MODIFYING = {"append", "clear", "extend", "insert", "pop", "remove", "reverse", "setdefault", "update", "sort", "add",
             "discard"}
UNUSED = (ast.Global, ast.AsyncFunctionDef, ast.AsyncFor, ast.AsyncWith, ast.Import, ast.Div)


def files():
    return sorted(path for path in PACKAGE.rglob("*") if path.is_file() and "__pycache__" not in path.parts)


def functions():
    """All functions and methods of the package, as (class or None, node)."""
    for path in files():
        tree = ast.parse(path.read_text())
        inner = {id(part): node.name for node in ast.walk(tree) if isinstance(node, ast.ClassDef) for part in node.body}
        for node in ast.walk(tree):
            if isinstance(node, ast.FunctionDef):
                yield inner.get(id(node)), node


def own_lists(node):
    """The local names of a function that are assigned nothing but lists that it creates."""
    told = {}
    for part in ast.walk(node):
        if isinstance(part, ast.Assign) and isinstance(part.targets[0], ast.Name):
            is_new = isinstance(part.value, (ast.List, ast.ListComp))
            told[part.targets[0].id] = told.get(part.targets[0].id, True) and is_new
    return {name for name, is_new in told.items() if is_new}


def changes(node):
    """What a function changes but its own lists, as texts of code."""
    own = own_lists(node)
    for part in ast.walk(node):
        if isinstance(part, (ast.Attribute, ast.Subscript)) and isinstance(part.ctx, (ast.Store, ast.Del)):
            yield ast.unparse(part)
        elif isinstance(part, ast.AugAssign) and not isinstance(part.value, ast.Constant):
            yield ast.unparse(part)
        elif isinstance(part, ast.Call) and isinstance(part.func, ast.Attribute) and part.func.attr in MODIFYING:
            if not isinstance(part.func.value, ast.Name) or part.func.value.id not in own:
                yield ast.unparse(part)


def called(node):
    """The names by which a function calls others."""
    calls = [part.func for part in ast.walk(node) if isinstance(part, ast.Call)]
    return {func.id if isinstance(func, ast.Name) else func.attr for func in calls}


class FormTest(unittest.TestCase):
    def test_files(self):
        self.assertIn(PACKAGE / "__init__.py", files())
        for path in files():
            self.assertEqual(path.suffix, ".py")
            self.assertEqual(path.name, path.name.lower())

    def test_characters_and_sizes(self):
        for path in files():
            lines = path.read_text(encoding="utf-8").split("\n")
            self.assertLessEqual(len(lines), 400, path.name)
            for line in lines:
                self.assertLessEqual(len(line), 120, (path.name, line))
                self.assertTrue(all(" " <= sign <= "~" for sign in line), (path.name, line))

    def test_functions_are_small(self):
        for path in files():
            for node in ast.walk(ast.parse(path.read_text())):
                if isinstance(node, ast.FunctionDef):
                    self.assertLessEqual(node.end_lineno - node.lineno + 1, 40, (path.name, node.name))

    def test_imports(self):
        for path in files():
            for node in ast.walk(ast.parse(path.read_text())):
                if isinstance(node, ast.ImportFrom):
                    self.assertEqual(node.level, 0)
                    self.assertTrue(node.module.startswith("surelyhas.") or node.module in LIBRARY, node.module)
                else:
                    self.assertNotIsInstance(node, UNUSED, path.name)

    def test_barred_names(self):
        for path in files():
            for node in ast.walk(ast.parse(path.read_text())):
                for field in ("id", "attr", "arg", "name"):
                    name = getattr(node, field, None)
                    if isinstance(name, str):
                        self.assertIsNone(BARRED.fullmatch(name), (path.name, name))

    def test_operators_and_properties_change_nothing(self):
        """Calls are followed by their names, whatever class has a method of this name."""
        by_name = {}
        for _, node in functions():
            by_name.setdefault(node.name, []).append(node)
        for owner, node in functions():
            is_operator = node.name.startswith("__") and node.name not in ("__init__", "__enter__", "__exit__")
            if is_operator or node.decorator_list:
                waiting, seen = {node.name}, set()
                reached = [node]
                while reached:
                    self.assertEqual([text for part in reached for text in changes(part)], [], (owner, node.name))
                    seen |= waiting
                    waiting = {name for part in reached for name in called(part)} - seen
                    reached = [part for name in waiting for part in by_name.get(name, [])]


if __name__ == "__main__":
    unittest.main()
