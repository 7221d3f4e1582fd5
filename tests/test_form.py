"""Some rules of LANGUAGE.md that are easily broken by mistake and easily seen."""

import ast
import builtins
import pathlib
import unittest

FOLDER = pathlib.Path(__file__).parent.parent / "gangbooks"
LIBRARY = ("heapq", "math", "itertools")
NOT_USED = ("register", "mro", "elements", "open", "input", "law", "eval", "exec", "id", "vars", "dir")


def parsed():
    return {path: ast.parse(path.read_text()) for path in sorted(FOLDER.glob("*.py"))}


def nodes(kind):
    """All nodes of a kind with the path of their file."""
    return [(path, node) for path, tree in parsed().items() for node in ast.walk(tree) if isinstance(node, kind)]


MODIFIERS = ("append", "clear", "extend", "insert", "pop", "remove", "reverse", "setdefault", "sort", "update", "add", "discard")


def path_to(node):
    """The dotted name of a variable, a field, or the thing that an item is taken from; None for other expressions."""
    if isinstance(node, ast.Name):
        return node.id
    if isinstance(node, ast.Attribute):
        inner = path_to(node.value)
        return None if inner is None else f"{inner}.{node.attr}"
    return path_to(node.value) if isinstance(node, (ast.Subscript, ast.Starred)) else None


def paths_in(node):
    """The paths that an expression may be, by its name, a field, an item or a choice."""
    if isinstance(node, ast.IfExp):
        return paths_in(node.body) | paths_in(node.orelse)
    if isinstance(node, ast.BoolOp):
        return set().union(*[paths_in(value) for value in node.values])
    if isinstance(node, (ast.Tuple, ast.List)):
        return set().union(*[paths_in(item) for item in node.elts])
    return {path_to(node)} - {None}


def walked_paths(node):
    """The paths that a loop over this expression walks."""
    if isinstance(node, ast.Call) and isinstance(node.func, ast.Name) and node.func.id in ("enumerate", "zip", "reversed"):
        return set().union(*[walked_paths(arg) for arg in node.args])
    if isinstance(node, ast.Call) and isinstance(node.func, ast.Attribute) and node.func.attr in ("items", "keys", "values"):
        return paths_in(node.func.value)
    return paths_in(node)


def changed_paths(rows):
    """The paths that are changed in these nodes."""
    found = set()
    for node in [inner for row in rows for inner in ast.walk(row)]:
        if isinstance(node, ast.Call) and isinstance(node.func, ast.Attribute) and node.func.attr in MODIFIERS:
            found |= paths_in(node.func.value)
        elif isinstance(node, ast.Subscript) and not isinstance(node.ctx, ast.Load):
            found |= paths_in(node.value)
        elif isinstance(node, ast.AugAssign):
            found |= paths_in(node.target)
    return found


def kin_of(function, path):
    """The path with those that it may be the same as, or an item of, by the assignments of a function."""
    pairs = []
    for node in ast.walk(function):
        if isinstance(node, ast.Assign):
            for target in node.targets:
                names = target.elts if isinstance(target, ast.Tuple) else [target]
                pairs += [(paths_in(name), paths_in(node.value)) for name in names]
    kin = {path}
    for _ in pairs:
        for targets, values in pairs:
            if values and (targets | values) & kin:
                kin |= targets | values
    return kin


def defined(tree):
    """The names that a module defines itself."""
    names = {node.name for node in tree.body if isinstance(node, (ast.FunctionDef, ast.ClassDef))}
    return names | {target.id for node in tree.body if isinstance(node, ast.Assign) for target in node.targets}


class FormTest(unittest.TestCase):
    def test_the_folder_holds_python_files_only(self):
        others = [path.name for path in FOLDER.iterdir() if path.suffix != ".py" and path.name != "__pycache__"]
        self.assertEqual(others, [])

    def test_characters_and_sizes(self):
        for path in parsed():
            text = path.read_text()
            self.assertRegex(text, r"\A[ -~\n]*\n\Z", path)
            self.assertLessEqual(text.count("\n"), 399, path)
            self.assertLessEqual(max(len(line) for line in text.split("\n")), 120, path)

    def test_functions_have_at_most_40_lines(self):
        for path, node in nodes(ast.FunctionDef):
            self.assertLessEqual(node.end_lineno - node.lineno + 1, 40, (path, node.name))

    def test_imports_name_the_defining_file_and_make_no_ring(self):
        trees = {f"gangbooks.{path.stem}": tree for path, tree in parsed().items()}
        waiting = {}
        for path, node in nodes(ast.ImportFrom):
            if node.module not in LIBRARY:
                waiting.setdefault(f"gangbooks.{path.stem}", set()).add(node.module)
                for alias in node.names:
                    self.assertIn(alias.name, defined(trees[node.module]), path)
        while waiting:
            free = [module for module in waiting if not waiting[module] & set(waiting)]
            self.assertTrue(free, f"a ring of imports: {sorted(waiting)}")
            waiting = {module: waiting[module] for module in waiting if module not in free}
        self.assertEqual(nodes(ast.Import), [])

    def test_names(self):
        for path, node in nodes((ast.FunctionDef, ast.arg, ast.Attribute, ast.Name)):
            word = [getattr(node, kind) for kind in ("name", "arg", "attr", "id") if hasattr(node, kind)][0]
            self.assertNotIn(word, NOT_USED, (path, node.lineno))
            if isinstance(node, ast.arg) or (isinstance(node, ast.Name) and isinstance(node.ctx, ast.Store)):
                self.assertFalse(hasattr(builtins, word), (path, node.lineno, word))

    def test_views_are_iterated_at_once(self):
        views = ("range", "zip", "enumerate", "reversed")
        for path, node in nodes(ast.Call):
            named = getattr(node.func, "id", None)
            inner = [getattr(getattr(arg, "func", None), "id", None) for arg in node.args]
            if named == "reversed":
                self.assertIn(inner[0], ("list", "tuple", "sorted", "range"), (path, node.lineno))
            if named in ("min", "max") and (len(inner) > 1 or "key" in [word.arg for word in node.keywords]):
                self.assertFalse(set(inner) & set(views), (path, node.lineno))

    def test_what_is_walked_is_not_changed(self):
        for path, function in nodes(ast.FunctionDef):
            for node in ast.walk(function):
                if isinstance(node, ast.For):
                    changed = changed_paths(node.body)
                    for walked in walked_paths(node.iter):
                        self.assertFalse(kin_of(function, walked) & changed, (path, node.lineno))

    def test_no_name_is_a_method_and_an_attribute(self):
        methods = {inner.name for _, node in nodes(ast.ClassDef) for inner in node.body if isinstance(inner, ast.FunctionDef)}
        for path, node in nodes(ast.Attribute):
            if isinstance(node.ctx, ast.Store) and node.attr != "many":
                self.assertNotIn(node.attr, methods, (path, node.lineno))

    def test_no_variable_has_the_name_of_an_import_or_a_class(self):
        for path, tree in parsed().items():
            names = {alias.name for node in tree.body if isinstance(node, ast.ImportFrom) for alias in node.names}
            names |= {node.name for node in tree.body if isinstance(node, ast.ClassDef)}
            for node in ast.walk(tree):
                word = node.arg if isinstance(node, ast.arg) else getattr(node, "id", None)
                if isinstance(node, ast.arg) or isinstance(getattr(node, "ctx", None), ast.Store):
                    self.assertNotIn(word, names, (path, node.lineno))

    def test_stars(self):
        plain = (ast.Name, ast.Attribute, ast.List, ast.Tuple)
        for path, node in nodes(ast.Starred):
            self.assertIsInstance(node.value, plain, (path, node.lineno))
        for path, node in nodes(ast.Dict):
            self.assertNotIn(None, node.keys, (path, node.lineno))

    def test_values_and_expressions(self):
        self.assertEqual(nodes((ast.GeneratorExp, ast.Div, ast.Global)), [])
        for path, node in nodes(ast.Constant):
            self.assertNotIsInstance(node.value, float, path)
            self.assertNotIn("%", str(node.value), path)


if __name__ == "__main__":
    unittest.main()
