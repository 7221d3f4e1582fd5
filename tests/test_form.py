"""Some rules of LANGUAGE.md that are easily broken by mistake and easily seen."""

import ast
import builtins
import pathlib
import unittest

FOLDER = pathlib.Path(__file__).parent.parent / "gangbooks"
LIBRARY = ("heapq", "math", "itertools")
NOT_USED = ("register", "mro", "elements", "open", "input", "law", "eval", "exec", "id", "vars", "dir")


def parsed():
    return {path: ast.parse(path.read_text()) for path in sorted(FOLDER.glob("*.py"))}


def nodes(kind):
    """All nodes of a kind with the path of their file."""
    return [(path, node) for path, tree in parsed().items() for node in ast.walk(tree) if isinstance(node, kind)]


def defined(tree):
    """The names that a module defines itself."""
    names = {node.name for node in tree.body if isinstance(node, (ast.FunctionDef, ast.ClassDef))}
    return names | {target.id for node in tree.body if isinstance(node, ast.Assign) for target in node.targets}


class FormTest(unittest.TestCase):
    def test_the_folder_holds_python_files_only(self):
        others = [path.name for path in FOLDER.iterdir() if path.suffix != ".py" and path.name != "__pycache__"]
        self.assertEqual(others, [])

    def test_characters_and_sizes(self):
        for path in parsed():
            text = path.read_text()
            self.assertRegex(text, r"\A[ -~\n]*\n\Z", path)
            self.assertLessEqual(text.count("\n"), 399, path)
            self.assertLessEqual(max(len(line) for line in text.split("\n")), 120, path)

    def test_functions_have_at_most_40_lines(self):
        for path, node in nodes(ast.FunctionDef):
            self.assertLessEqual(node.end_lineno - node.lineno + 1, 40, (path, node.name))

    def test_imports_name_the_defining_file_and_make_no_ring(self):
        trees = {f"gangbooks.{path.stem}": tree for path, tree in parsed().items()}
        waiting = {}
        for path, node in nodes(ast.ImportFrom):
            if node.module not in LIBRARY:
                waiting.setdefault(f"gangbooks.{path.stem}", set()).add(node.module)
                for alias in node.names:
                    self.assertIn(alias.name, defined(trees[node.module]), path)
        while waiting:
            free = [module for module in waiting if not waiting[module] & set(waiting)]
            self.assertTrue(free, f"a ring of imports: {sorted(waiting)}")
            waiting = {module: waiting[module] for module in waiting if module not in free}
        self.assertEqual(nodes(ast.Import), [])

    def test_names(self):
        for path, node in nodes((ast.FunctionDef, ast.arg, ast.Attribute, ast.Name)):
            word = [getattr(node, kind) for kind in ("name", "arg", "attr", "id") if hasattr(node, kind)][0]
            self.assertNotIn(word, NOT_USED, (path, node.lineno))
            if isinstance(node, ast.arg) or (isinstance(node, ast.Name) and isinstance(node.ctx, ast.Store)):
                self.assertFalse(hasattr(builtins, word), (path, node.lineno, word))

    def test_views_are_iterated_at_once(self):
        views = ("range", "zip", "enumerate", "reversed")
        for path, node in nodes(ast.Call):
            named = getattr(node.func, "id", None)
            inner = [getattr(getattr(arg, "func", None), "id", None) for arg in node.args]
            if named == "reversed":
                self.assertIn(inner[0], ("list", "tuple", "sorted", "range"), (path, node.lineno))
            if named in ("min", "max") and (len(inner) > 1 or "key" in [word.arg for word in node.keywords]):
                self.assertFalse(set(inner) & set(views), (path, node.lineno))

    def test_stars(self):
        plain = (ast.Name, ast.Attribute, ast.List, ast.Tuple)
        for path, node in nodes(ast.Starred):
            self.assertIsInstance(node.value, plain, (path, node.lineno))
        for path, node in nodes(ast.Dict):
            self.assertNotIn(None, node.keys, (path, node.lineno))

    def test_values_and_expressions(self):
        self.assertEqual(nodes((ast.GeneratorExp, ast.Div, ast.Global)), [])
        for path, node in nodes(ast.Constant):
            self.assertNotIsInstance(node.value, float, path)
            self.assertNotIn("%", str(node.value), path)


if __name__ == "__main__":
    unittest.main()
