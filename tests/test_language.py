"""The package keeps to its small part of Python, as far as that can be seen from single files."""

import ast
import builtins
import re
import unittest
from pathlib import Path

PACKAGE = Path(__file__).resolve().parent.parent / "keybehind"
BUILTINS = set("""len range enumerate zip min max sum abs sorted reversed int str bool list tuple dict set isinstance ord
    repr any all divmod Exception ValueError TypeError KeyError IndexError LookupError ZeroDivisionError
    NotImplementedError NotImplemented""".split())
METHODS = set("""append clear copy count endswith extend find get index insert isalnum isalpha isdigit islower isspace
    isupper items join keys ljust lower lstrip partition pop remove replace reverse rfind rjust rpartition rsplit rstrip
    setdefault split splitlines startswith strip update upper values zfill bit_length removeprefix removesuffix""".split())
DOUBLE = set("__init__ __eq__ __repr__ __str__ __len__ __enter__ __exit__ __call__ __iter__".split())
SIGNS = set("""__lt__ __le__ __gt__ __ge__ __add__ __radd__ __iadd__ __and__ __iand__ __or__ __ior__ __neg__
    __contains__ __getitem__ __setitem__""".split())
# Words that stand nowhere in a file, or name nothing.
BARRED = re.compile(r"\b(type|typing|enum|Enum|Generic|Protocol|ABC|namedtuple|NamedTuple|TypedDict|register|mro|elements|"
                    r"open|input|law|eval|exec|globals|locals|vars|super|chr)\b|dataclass|overload|contextmanager|_wall")
NODES = (ast.Global, ast.AsyncFunctionDef, ast.AsyncFor, ast.AsyncWith, ast.Await, ast.Div, ast.AugAssign, ast.AnnAssign,
         ast.TryStar, ast.Set)


def trees():
    return {path: ast.parse(path.read_text()) for path in sorted(PACKAGE.rglob("*.py"))}


def calls(tree, *names):
    return [node for node in ast.walk(tree)
            if isinstance(node, ast.Call) and isinstance(node.func, ast.Name) and node.func.id in names]


class Language(unittest.TestCase):
    def test_files(self):
        found = [path for path in PACKAGE.rglob("*") if "__pycache__" not in path.parts]
        self.assertIn(PACKAGE / "__init__.py", found)
        for path in found:
            self.assertRegex(path.name, r"^(__init__|[a-z][a-z0-9_]*)\.py$")

    def test_sizes_and_characters(self):
        for path, tree in trees().items():
            text = path.read_bytes().decode("ascii")
            self.assertRegex(text, r"\A[ -~\n]*\Z")
            lines = text.split("\n")
            self.assertLess(len(lines), 400, path)
            self.assertLessEqual(max(map(len, lines)), 120, path)
            for node in ast.walk(tree):
                if isinstance(node, ast.FunctionDef):
                    self.assertLessEqual(node.end_lineno - node.lineno + 1, 40, node.name)

    def test_words(self):
        for path, tree in trees().items():
            for node in ast.walk(tree):
                if isinstance(node, (ast.Module, ast.ClassDef, ast.FunctionDef)) and ast.get_docstring(node):
                    node.body = node.body[1:] or [ast.Pass()]
            self.assertIsNone(BARRED.search(ast.unparse(tree)), path)
            for node in ast.walk(tree):
                self.assertNotIsInstance(node, NODES, path)
                if isinstance(node, ast.Constant):
                    self.assertNotIsInstance(node.value, (float, complex, bytes))
                    self.assertNotIn("%", str(node.value))

    def test_module_level(self):
        for path, tree in trees().items():
            bound = []
            for node in tree.body:
                self.assertIsInstance(node, (ast.ImportFrom, ast.FunctionDef, ast.ClassDef, ast.Assign, ast.Expr))
                if isinstance(node, ast.Expr):
                    self.assertIs(node, tree.body[0])
                elif isinstance(node, ast.Assign):
                    ast.literal_eval(node.value)
                    bound.append(node.targets[0].id)
                elif isinstance(node, ast.ImportFrom):
                    bound += [alias.name for alias in node.names]
                else:
                    bound.append(node.name)
            self.assertEqual(len(bound), len(set(bound)), path)

    def test_imports(self):
        after = {}
        for path, tree in trees().items():
            due = [node for node in ast.walk(tree) if isinstance(node, (ast.Import, ast.ImportFrom))]
            after[path.stem] = []
            for node in due:
                self.assertIsInstance(node, ast.ImportFrom)
                self.assertEqual(node.level, 0)
                package, name = node.module.split(".")
                self.assertEqual(package, "keybehind")
                after[path.stem].append(name)
                home = ast.parse((PACKAGE / f"{name}.py").read_text())
                made = [part.name for part in home.body if isinstance(part, (ast.FunctionDef, ast.ClassDef))]
                made += [part.targets[0].id for part in home.body if isinstance(part, ast.Assign)]
                for alias in node.names:
                    self.assertIsNone(alias.asname)
                    self.assertIn(alias.name, made)
        while after:
            free = [name for name, others in after.items() if not set(others) & set(after)]
            self.assertTrue(free, f"these import from each other: {sorted(after)}")
            after = {name: others for name, others in after.items() if name not in free}

    def test_names(self):
        for path, tree in trees().items():
            taken = {node.name for node in tree.body if isinstance(node, ast.ClassDef)}
            taken |= {alias.name for node in tree.body if isinstance(node, ast.ImportFrom) for alias in node.names}
            for node in ast.walk(tree):
                if isinstance(node, ast.Name) and isinstance(node.ctx, ast.Load) and hasattr(builtins, node.id):
                    self.assertIn(node.id, BUILTINS | {"classmethod", "staticmethod", "property"}, path)
                made = {ast.FunctionDef: "name", ast.arg: "arg", ast.ExceptHandler: "name"}.get(type(node))
                name = getattr(node, made) if made else getattr(node, "id", None)
                if name in DOUBLE | SIGNS | {None, "_"}:
                    continue
                if made or not isinstance(node.ctx, ast.Load):
                    self.assertFalse(hasattr(builtins, name), f"{path}: {name}")
                    self.assertNotIn(name, taken, path)
                    self.assertRegex(name, r"^_?[a-zA-Z]")

    def test_functions(self):
        for path, tree in trees().items():
            for node in ast.walk(tree):
                if isinstance(node, (ast.FunctionDef, ast.ClassDef)):
                    names = [ast.unparse(part) for part in node.decorator_list]
                    right = all(re.fullmatch(r"classmethod|staticmethod|property|\w+\.setter", name) for name in names)
                    self.assertTrue(right and len(names) < 2, path)

    def test_methods(self):
        own = {part.name for tree in trees().values() for node in tree.body if isinstance(node, ast.ClassDef)
               for part in node.body if isinstance(part, ast.FunctionDef)}
        for path, tree in trees().items():
            for node in ast.walk(tree):
                if isinstance(node, ast.Call) and isinstance(node.func, ast.Attribute):
                    self.assertIn(node.func.attr, METHODS | own, path)

    def test_sets_and_generators(self):
        for path, tree in trees().items():
            inside = {id(node.args[0]) for node in calls(tree, "sorted", "len") if not node.keywords}
            for node in [*calls(tree, "set"), *[node for node in ast.walk(tree) if isinstance(node, ast.SetComp)]]:
                self.assertIn(id(node), inside, path)
            self.assertFalse([node for node in ast.walk(tree) if isinstance(node, ast.GeneratorExp)], path)
            for node in calls(tree, "sorted"):
                self.assertEqual(ast.unparse(node)[:11], "sorted(set(", path)

    def test_is(self):
        for path, tree in trees().items():
            for node in ast.walk(tree):
                if isinstance(node, ast.Compare) and isinstance(node.ops[0], (ast.Is, ast.IsNot)):
                    self.assertIsInstance(node.comparators[0], ast.Constant, path)


if __name__ == "__main__":
    unittest.main()
