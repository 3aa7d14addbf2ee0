"""The form of the package: what of LANGUAGE.md can be read off its files (L1, L2, L4, L6 to L8, L10, L14 to L16,
L20, L23, L25, L27)."""

import ast
import builtins
import pathlib
import unittest

PACKAGE = pathlib.Path(__file__).resolve().parent.parent / "twiceeach"
LIBRARY = ["heapq", "math", "itertools", "collections", "__future__"]
BUILTINS = set("""
    len range enumerate zip min max sum abs sorted reversed int str bool bytes list tuple dict set frozenset isinstance ord
    repr any all divmod pow getattr hasattr setattr iter next map type super property staticmethod classmethod object float
    Exception ValueError TypeError KeyError IndexError LookupError ZeroDivisionError ArithmeticError OverflowError
    RuntimeError NotImplementedError AttributeError StopIteration NotImplemented
""".split())
DECORATORS = ["property", "staticmethod", "classmethod"]
METHODS = set("""
    append clear copy count endswith extend find get index insert isalnum isalpha isdigit islower isspace isupper items join keys ljust
    lower lstrip partition pop remove replace reverse rfind rjust rpartition rsplit rstrip setdefault split splitlines startswith strip
    update upper values zfill bit_length
""".split())
CHANGING = ["append", "clear", "extend", "insert", "pop", "remove", "reverse", "setdefault", "update"]
NEVER = (ast.AsyncFunctionDef, ast.AsyncFor, ast.AsyncWith, ast.Await, ast.Div, ast.Import)


def files():
    """The files of the package, but for the one that may read and print, each with its text."""
    return {path.name: path.read_text(encoding="utf-8") for path in sorted(PACKAGE.glob("*.py")) if path.name != "__main__.py"}


def nodes(kind):
    """All nodes of a kind, each with the name of its file."""
    return [(name, node) for name, text in files().items() for node in ast.walk(ast.parse(text)) if isinstance(node, kind)]


def same_lists(function):
    """For each name of a function one name that stands for all names of the same list, as far as `a = b` tells."""
    names = {}
    for node in ast.walk(function):
        if isinstance(node, ast.Assign) and isinstance(node.value, ast.Name):
            for target in node.targets:
                if isinstance(target, ast.Name):
                    kept, gone = names.get(node.value.id, node.value.id), names.get(target.id, target.id)
                    names.update({one: kept for one in [target.id, *names] if names.get(one, one) == gone})
    return names


def walked_names(walked):
    """The names and attributes that a loop over the expression walks itself, and not as a copy."""
    if isinstance(walked, ast.Name):
        return [walked.id]
    if isinstance(walked, ast.Attribute):
        return [walked.attr]
    if isinstance(walked, ast.Call) and isinstance(walked.func, ast.Attribute):
        return walked_names(walked.func.value)
    if isinstance(walked, ast.Call) and walked.func.id in ("enumerate", "zip", "reversed"):
        return [name for argument in walked.args for name in walked_names(argument)]
    if isinstance(walked, ast.IfExp):
        return walked_names(walked.body) + walked_names(walked.orelse)
    return []


def changed_names(loop):
    """The names and attributes of which the rows of a loop change the items."""
    changed = []
    for node in (one for row in loop.body for one in ast.walk(row)):
        if isinstance(node, ast.Call) and isinstance(node.func, ast.Attribute) and node.func.attr in CHANGING:
            changed += walked_names(node.func.value)
        elif isinstance(node, ast.Subscript) and isinstance(node.ctx, (ast.Store, ast.Del)):
            changed += walked_names(node.value)
        elif isinstance(node, ast.AugAssign):
            changed += walked_names(node.target)
    return changed


class Form(unittest.TestCase):

    def test_the_folder_contains_python_files_only(self):
        for path in PACKAGE.iterdir():
            if path.name != "__pycache__":
                self.assertTrue(path.is_file() and path.suffix == ".py" and path.name == path.name.lower(), path)

    def test_sizes(self):
        for name, text in files().items():
            lines = text.split("\n")
            self.assertLessEqual(len(lines), 400, name)
            for number, line in enumerate(lines, 1):
                self.assertLessEqual(len(line), 120, (name, number))
        for name, node in nodes(ast.FunctionDef):
            self.assertLessEqual(node.end_lineno - node.lineno + 1, 40, (name, node.name))

    def test_characters(self):
        for name, text in files().items():
            self.assertTrue(all(sign == "\n" or " " <= sign <= "~" for sign in text), name)

    def test_imports(self):
        for name, node in nodes(ast.ImportFrom):
            self.assertEqual(node.level, 0, (name, node.lineno))
            self.assertTrue(node.module in LIBRARY or node.module.startswith("twiceeach."), (name, node.module))
            if node.module.startswith("twiceeach."):
                source = ast.parse(files()[node.module.split(".")[1] + ".py"])
                defined = [one.name for one in source.body if isinstance(one, (ast.FunctionDef, ast.ClassDef))]
                defined += [target.id for one in source.body if isinstance(one, ast.Assign) for target in one.targets]
                for one in node.names:
                    self.assertIn(one.name, defined, (name, node.lineno))

    def test_no_two_files_import_from_each_other_and_each_import_is_used(self):
        sources = {name: [] for name in files()}
        for name, node in nodes(ast.ImportFrom):
            if node.module.startswith("twiceeach."):
                sources[name].append(node.module.split(".")[1] + ".py")
            names = {one.id for one in ast.walk(ast.parse(files()[name])) if isinstance(one, ast.Name)}
            self.assertLessEqual({one.name for one in node.names}, names, (name, node.lineno))
        while sources:
            free = [name for name, found in sources.items() if not any(source in sources for source in found)]
            self.assertNotEqual(free, [], sorted(sources))
            sources = {name: found for name, found in sources.items() if name not in free}

    def test_generator_expressions(self):
        for name, node in nodes(ast.Call):
            if any(isinstance(argument, ast.GeneratorExp) for argument in node.args):
                self.assertIn(ast.unparse(node.func), ["tuple", "list", "dict"], (name, node.lineno))

    def test_module_level(self):
        kinds = (ast.ImportFrom, ast.FunctionDef, ast.ClassDef, ast.Assign, ast.AnnAssign, ast.Expr)
        for name, text in files().items():
            bound = []
            for node in ast.parse(text).body:
                self.assertIsInstance(node, kinds, (name, node.lineno))
                if isinstance(node, ast.ImportFrom):
                    bound += [one.asname or one.name for one in node.names]
                elif isinstance(node, ast.Assign):
                    bound += [target.id for target in node.targets]
                elif isinstance(node, (ast.FunctionDef, ast.ClassDef)):
                    bound.append(node.name)
            self.assertEqual(len(set(bound)), len(bound), name)

    def test_names_of_builtins(self):
        for name, node in nodes(ast.Name):
            if node.id in dir(builtins):
                self.assertIn(node.id, BUILTINS, (name, node.lineno))
                self.assertIsInstance(node.ctx, ast.Load, (name, node.lineno))

    def test_what_is_never_written(self):
        for name, node in nodes(NEVER):
            self.fail((name, type(node).__name__))
        for name, node in nodes(ast.Constant):
            self.assertNotIsInstance(node.value, float, (name, node.lineno))
        for name, node in nodes(ast.FunctionDef):
            for one in node.decorator_list:
                self.assertTrue(ast.unparse(one) in DECORATORS or ast.unparse(one).endswith(".setter"), (name, node.name))
        for name, node in nodes(ast.ExceptHandler):
            self.assertIsNotNone(node.type, (name, node.lineno))

    def test_no_local_name_is_that_of_a_class_or_an_import_of_its_file(self):
        for name, text in files().items():
            tree = ast.parse(text)
            taken = {one.name for node in ast.walk(tree) if isinstance(node, ast.ImportFrom) for one in node.names}
            taken |= {node.name for node in ast.walk(tree) if isinstance(node, ast.ClassDef)}
            for node in ast.walk(tree):
                if isinstance(node, ast.Name) and isinstance(node.ctx, ast.Store):
                    self.assertNotIn(node.id, taken, (name, node.lineno))
                if isinstance(node, ast.arg):
                    self.assertNotIn(node.arg, taken, (name, node.lineno))

    def test_methods_are_own_ones_or_plain_ones_of_builtin_values(self):
        own = {node.name for _, node in nodes(ast.FunctionDef)}
        for name, node in nodes(ast.Call):
            if isinstance(node.func, ast.Attribute):
                self.assertIn(node.func.attr, METHODS | own, (name, node.lineno))

    def test_stars_in_calls_stand_before_names(self):
        for name, node in nodes(ast.Call):
            for argument in node.args:
                if isinstance(argument, ast.Starred):
                    self.assertIsInstance(argument.value, (ast.Name, ast.Attribute), (name, node.lineno))

    def test_no_powers_and_nothing_compared_by_is_but_none_true_and_false(self):
        for name, node in nodes(ast.BinOp):
            self.assertNotIsInstance(node.op, ast.Pow, (name, node.lineno))
        for name, node in nodes(ast.Compare):
            if any(isinstance(sign, (ast.Is, ast.IsNot)) for sign in node.ops):
                self.assertIsInstance(node.comparators[0], ast.Constant, (name, node.lineno))

    def test_no_loop_changes_what_it_walks(self):
        for name, function in nodes(ast.FunctionDef):
            names = same_lists(function)
            for loop in ast.walk(function):
                if isinstance(loop, ast.For):
                    walked = {names.get(one, one) for one in walked_names(loop.iter)}
                    changed = {names.get(one, one) for one in changed_names(loop)}
                    self.assertEqual(walked & changed, set(), (name, loop.lineno))


if __name__ == "__main__":
    unittest.main()
