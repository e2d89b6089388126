"""What the package keeps to so that its operators stay plain: sizes, characters, and what operators reach."""

import ast
import pathlib
import unittest

FOLDER = pathlib.Path(__file__).resolve().parent.parent / "thirdback"
FILES = sorted(FOLDER.glob("*.py"))
TREES = {path.name: ast.parse(path.read_text()) for path in FILES}
# Setting an item may change and call what it likes.
FREE = ("__init__", "__call__", "__iter__", "__enter__", "__exit__", "__setitem__")


def functions():
    """All functions and methods, as pairs of the name of their class, None if they have none, and the node."""
    for tree in TREES.values():
        for node in tree.body:
            if isinstance(node, ast.FunctionDef):
                yield None, node
            elif isinstance(node, ast.ClassDef):
                yield from [(node.name, part) for part in node.body if isinstance(part, ast.FunctionDef)]


def is_operator(node):
    """Whether it is a double-underscore method that is to change nothing, or a property."""
    decorators = [part.id for part in node.decorator_list if isinstance(part, ast.Name)]
    return "property" in decorators or (node.name.startswith("__") and node.name not in FREE)


def called(node):
    """The names of the functions that it calls, and those of the methods."""
    calls = [part.func for part in ast.walk(node) if isinstance(part, ast.Call)]
    return ({func.id for func in calls if isinstance(func, ast.Name)},
            {func.attr for func in calls if isinstance(func, ast.Attribute)})


def reached():
    """All functions and methods that operators and properties reach, found by their names."""
    by_name = {}
    for owner, node in functions():
        by_name.setdefault(owner if node.name == "__init__" else node.name, []).append(node)
    waiting = [node for _, node in functions() if is_operator(node)]
    found = {}
    while waiting:
        node = waiting.pop()
        if id(node) not in found:
            found[id(node)] = node
            names, methods = called(node)
            waiting += [other for name in names | methods for other in by_name.get(name, ())]
    return list(found.values())


class LanguageTest(unittest.TestCase):
    def test_operators_call_no_method_that_has_the_name_of_an_attribute(self):
        attributes = {part.attr for tree in TREES.values() for part in ast.walk(tree)
                      if isinstance(part, ast.Attribute) and isinstance(part.ctx, ast.Store)}
        self.assertIn("index", attributes)
        self.assertGreater(len(reached()), 60)
        for node in reached():
            with self.subTest(node.name):
                self.assertEqual(set(), called(node)[1] & attributes)

    def test_sizes_and_characters(self):
        for path in FILES:
            rows = path.read_text().split("\n")
            with self.subTest(path.name):
                self.assertLess(len(rows), 401)
                self.assertLess(max(map(len, rows)), 121)
                self.assertTrue(all(" " <= sign <= "~" for row in rows for sign in row))
        for _, node in functions():
            self.assertLess(node.end_lineno - node.lineno, 40, node.name)

    def test_the_folder_holds_nothing_else(self):
        names = [path.name for path in FOLDER.iterdir() if path.name != "__pycache__"]
        self.assertEqual(sorted(TREES), sorted(names))


if __name__ == "__main__":
    unittest.main()
