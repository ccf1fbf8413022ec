"""The rules of the language that a look at the files can tell (see LANGUAGE.md)."""

import ast
import builtins
import pathlib
import unittest

FOLDER = pathlib.Path(__file__).resolve().parent.parent / "rootstalls"
FILES = sorted(path for path in FOLDER.iterdir() if path.name != "__pycache__")
LIBRARY = {"math": ["gcd", "lcm", "isqrt"], "itertools": ["combinations", "permutations"]}
CALLED = (
    "len range enumerate zip min max sum abs sorted reversed int str bool list tuple dict set "
    "isinstance ord any all divmod"
).split()
ERRORS = "ValueError KeyError ZeroDivisionError TypeError IndexError".split()
METHODS = (
    "append clear copy count endswith extend find get index insert isalnum isalpha isdigit islower "
    "isspace isupper items join keys ljust lower lstrip partition pop remove replace reverse rfind "
    "rjust rpartition rsplit rstrip setdefault split splitlines startswith strip update upper "
    "values zfill bit_length add discard"
).split()
SPECIAL = "__init__ __eq__".split()
BARRED = (
    ast.AsyncFor, ast.AsyncFunctionDef, ast.AsyncWith, ast.Await, ast.Global, ast.GeneratorExp,
    ast.AnnAssign, ast.NamedExpr, ast.Div, ast.MatMult, ast.Yield, ast.YieldFrom, ast.With, ast.Match,
)
NAMES = (
    "register mro elements open input law version_info with_traceback add_note attrgetter "
    "breakpoint builtins compile copyright credits delattr dir eval exec exit gc getattr globals "
    "hasattr help id importlib license locals methodcaller os quit setattr super type vars sys "
    "__name__ typing enum"
).split()


def trees():
    for path in FILES:
        yield path.name, ast.parse(path.read_text())


def functions_of(tree):
    return [node for node in ast.walk(tree) if isinstance(node, (ast.FunctionDef, ast.Lambda))]


def names_bound(tree):
    """The names of parameters and of what is assigned."""
    found = [node.id for node in ast.walk(tree) if isinstance(node, ast.Name)
             and not isinstance(node.ctx, ast.Load)]
    return found + [node.arg for node in ast.walk(tree) if isinstance(node, ast.arg)]


def imported(tree):
    return [alias.name for node in tree.body if isinstance(node, ast.ImportFrom) for alias in node.names]


def defined(tree, kind):
    return [node.name for node in tree.body if isinstance(node, kind)]


def is_plain(value, functions):
    """Whether a value at module level is plain, or a table from strings to functions defined above."""
    if isinstance(value, ast.Dict) and all(isinstance(one, ast.Name) for one in value.values):
        keys = all(isinstance(key, ast.Constant) for key in value.keys)
        return keys and all(one.id in functions for one in value.values)
    return ast.literal_eval(value) is not None


class Files(unittest.TestCase):
    def test_plain_files_of_a_fair_size(self):
        for path in FILES:
            self.assertRegex(path.name, r"^[a-z_]+\.py$")
            text = path.read_bytes().decode("ascii")
            self.assertTrue(set(text) <= set(map(chr, range(32, 127))) | {"\n"}, path.name)
            lines = text.split("\n")
            self.assertTrue(len(lines) < 400, path.name)
            self.assertTrue(max(map(len, lines)) <= 120, path.name)
            self.assertEqual([], [line for line in lines if line != line.rstrip()])

    def test_functions_have_at_most_40_lines(self):
        for name, tree in trees():
            for node in functions_of(tree):
                self.assertTrue(node.end_lineno - node.lineno < 40, (name, node.lineno))

    def test_module_level(self):
        kinds = (ast.ImportFrom, ast.FunctionDef, ast.ClassDef)
        for name, tree in trees():
            above = []
            for node in tree.body:
                docstring = isinstance(node, ast.Expr) and isinstance(node.value, ast.Constant)
                plain = isinstance(node, ast.Assign) and is_plain(node.value, above)
                self.assertTrue(isinstance(node, kinds) or docstring or plain, (name, node.lineno))
                if isinstance(node, ast.FunctionDef):
                    above.append(node.name)

    def test_imports_name_the_file_that_defines(self):
        known = dict(trees())
        for name, tree in known.items():
            for node in ast.walk(tree):
                self.assertNotIsInstance(node, ast.Import)
                if isinstance(node, ast.ImportFrom):
                    self.assertEqual(0, node.level)
                    self.assertEqual([None], sorted({alias.asname for alias in node.names}))
                    if node.module in LIBRARY:
                        there = LIBRARY[node.module]
                    else:
                        self.assertTrue(node.module.startswith("rootstalls."))
                        file = known[node.module.split(".")[1] + ".py"]
                        there = defined(file, (ast.FunctionDef, ast.ClassDef))
                        there += [one.targets[0].id for one in file.body if isinstance(one, ast.Assign)]
                    self.assertEqual([], [one.name for one in node.names if one.name not in there])

    def test_no_file_is_imported_in_a_ring(self):
        files = {name[:-3]: [] for name, _ in trees()}
        for name, tree in trees():
            for node in tree.body:
                if isinstance(node, ast.ImportFrom) and node.module.startswith("rootstalls."):
                    files[name[:-3]].append(node.module.split(".")[1])
        while files:
            free = [name for name in files if not [one for one in files[name] if one in files]]
            self.assertTrue(free, files)
            for name in free:
                del files[name]


class Names(unittest.TestCase):
    def test_names_are_bound_once_and_used(self):
        for name, tree in trees():
            known = imported(tree) + defined(tree, (ast.FunctionDef, ast.ClassDef))
            self.assertEqual(sorted(set(known)), sorted(known), name)
            used = {node.id for node in ast.walk(tree) if isinstance(node, ast.Name)}
            self.assertEqual([], [one for one in imported(tree) if one not in used], name)

    def test_no_name_hides_another(self):
        for name, tree in trees():
            taken = imported(tree) + defined(tree, ast.ClassDef) + dir(builtins) + NAMES
            for node in tree.body:
                if not isinstance(node, ast.Assign):
                    self.assertEqual([], [one for one in names_bound(node) if one in taken], name)
            for node in ast.walk(tree):
                if isinstance(node, (ast.FunctionDef, ast.ClassDef)):
                    self.assertNotIn(node.name, CALLED + NAMES)
                    if node.name.startswith("__"):
                        self.assertIn(node.name, SPECIAL)
            self.assertEqual([], [one for one in names_bound(tree) if one.startswith("__")])

    def test_underscores_are_not_read(self):
        for name, tree in trees():
            for node in ast.walk(tree):
                if isinstance(node, ast.Name) and node.id == "_":
                    self.assertIsInstance(node.ctx, ast.Store, (name, node.lineno))


class Statements(unittest.TestCase):
    def test_barred_ones(self):
        for name, tree in trees():
            for node in ast.walk(tree):
                self.assertNotIsInstance(node, BARRED, (name, getattr(node, "lineno", 0)))
                if isinstance(node, (ast.FunctionDef, ast.ClassDef)):
                    self.assertEqual([], node.decorator_list)
                if isinstance(node, ast.Constant):
                    self.assertNotIsInstance(node.value, (float, complex))
                if isinstance(node, ast.ExceptHandler):
                    self.assertIsNotNone(node.type)

    def test_no_builtins_but_the_listed_ones(self):
        for name, tree in trees():
            own = names_bound(tree) + imported(tree) + defined(tree, (ast.FunctionDef, ast.ClassDef))
            for node in ast.walk(tree):
                if isinstance(node, ast.Name) and node.id not in own:
                    self.assertIn(node.id, CALLED + ERRORS, (name, node.lineno))

    def test_methods_are_own_ones_or_listed(self):
        own = [node.name for _, tree in trees() for node in functions_of(tree)
               if isinstance(node, ast.FunctionDef)]
        for name, tree in trees():
            for node in ast.walk(tree):
                if isinstance(node, ast.Call) and isinstance(node.func, ast.Attribute):
                    self.assertIn(node.func.attr, METHODS + own, (name, node.lineno))

    def test_attributes_that_are_read_are_assigned(self):
        nodes = [node for _, tree in trees() for node in ast.walk(tree)]
        methods = METHODS + [node.name for node in nodes if isinstance(node, ast.FunctionDef)]
        attributes = [node for node in nodes if isinstance(node, ast.Attribute)]
        assigned = [node.attr for node in attributes if isinstance(node.ctx, ast.Store)]
        for node in attributes:
            self.assertIn(node.attr, assigned + methods)

    def test_is_beside_none_and_flags_alone(self):
        for name, tree in trees():
            for node in ast.walk(tree):
                if isinstance(node, ast.Compare):
                    for operator, right in zip(node.ops, node.comparators):
                        if isinstance(operator, (ast.Is, ast.IsNot)):
                            self.assertIsInstance(right, ast.Constant, (name, node.lineno))

    def test_ranges_and_the_like_are_iterated_at_once(self):
        kept = ("range", "zip", "enumerate", "reversed", "items", "keys", "values")
        for name, tree in trees():
            fair = []
            for node in ast.walk(tree):
                if isinstance(node, (ast.For, ast.comprehension)):
                    fair.append(node.iter)
                if isinstance(node, ast.Call) and isinstance(node.func, ast.Name):
                    if node.func.id in ("list", "tuple", "dict", "sorted", "sum", "enumerate", "zip"):
                        fair += node.args[:1]
            for node in ast.walk(tree):
                if isinstance(node, ast.Call) and node not in fair:
                    called = getattr(node.func, "id", getattr(node.func, "attr", ""))
                    self.assertNotIn(called, kept, (name, node.lineno))


if __name__ == "__main__":
    unittest.main()
