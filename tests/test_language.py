"""The package keeps to the subset of Python it is written in, as far as a test can see it."""

import ast
import builtins
import pathlib
import re
import unittest

FOLDER = pathlib.Path(__file__).resolve().parent.parent / "heapsmeet"
FILES = sorted(FOLDER.glob("*.py"))
BUILTINS = {name for name in dir(builtins) if not name.startswith("_")}
ALLOWED_BUILTINS = set(
    "len range enumerate zip min max sum abs sorted reversed int str bool bytes list tuple dict set frozenset "
    "isinstance ord repr any all divmod super Exception ValueError KeyError IndexError LookupError "
    "ZeroDivisionError ArithmeticError OverflowError RuntimeError NotImplementedError".split()
)
ALLOWED_METHODS = set(
    "append clear copy count endswith extend find get index insert isalnum isalpha isdigit islower isspace isupper "
    "items join keys ljust lower lstrip partition pop remove replace reverse rfind rjust rpartition rsplit rstrip "
    "setdefault split splitlines startswith strip update upper values zfill bit_length sort add discard isascii removeprefix".split()
)
BARRED_WORDS = (
    r"\b(type|typing|typing_extensions|enum|Enum|IntEnum|StrEnum|Flag|IntFlag|Generic|Protocol|ABC|ABCMeta|namedtuple"
    r"|NamedTuple|TypedDict|TYPE_CHECKING|abstractmethod)\b|dataclass|overload|contextmanager"
)
BARRED_NAMES = set(
    "register mro elements open input version_info with_traceback add_note attrgetter breakpoint builtins compile "
    "copyright credits delattr dir eval exec exit gc getattr globals hasattr help id importlib license locals "
    "methodcaller os quit setattr type vars sys".split()
)


def trees():
    return [(path, ast.parse(path.read_text())) for path in FILES]


def bound_names(tree):
    """All names that a file binds somewhere: definitions, parameters, targets and imports."""
    for node in ast.walk(tree):
        if isinstance(node, (ast.FunctionDef, ast.ClassDef)):
            yield node.name
        elif isinstance(node, ast.arg):
            yield node.arg
        elif isinstance(node, ast.Name) and not isinstance(node.ctx, ast.Load):
            yield node.id
        elif isinstance(node, ast.ImportFrom):
            for alias in node.names:
                yield alias.asname or alias.name


def top_names(tree):
    return [node.name for node in tree.body if isinstance(node, (ast.FunctionDef, ast.ClassDef))] + [
        target.id for node in tree.body if isinstance(node, ast.Assign) for target in node.targets
    ]


class Language(unittest.TestCase):
    def test_files(self):
        self.assertTrue((FOLDER / "__init__.py").is_file())
        for path in FOLDER.iterdir():
            if path.name != "__pycache__":
                self.assertRegex(path.name, r"^[a-z0-9_]+\.py$")
                self.assertNotRegex(path.name, r"^(test|law_|conftest|site)")
                self.assertNotIn(path.stem, BUILTINS)

    def test_characters_and_sizes(self):
        for path in FILES:
            text = path.read_text()
            self.assertTrue(all(sign == "\n" or " " <= sign <= "~" for sign in text), path)
            lines = text.split("\n")
            self.assertLessEqual(len(lines), 400, path)
            self.assertTrue(all(len(line) <= 120 for line in lines), path)
            self.assertIsNone(re.search(BARRED_WORDS, text), path)

    def test_functions_are_short(self):
        for path, tree in trees():
            for node in ast.walk(tree):
                if isinstance(node, ast.FunctionDef):
                    self.assertLessEqual(node.end_lineno - node.lineno + 1, 40, (path, node.name))

    def test_imports_name_the_file_that_defines_the_name(self):
        defined = {path.stem: top_names(tree) for path, tree in trees()}
        for path, tree in trees():
            for node in ast.walk(tree):
                self.assertNotIsInstance(node, ast.Import, path)
                if isinstance(node, ast.ImportFrom):
                    self.assertIn(node, tree.body)
                    self.assertEqual(node.level, 0)
                    self.assertTrue(node.module.startswith("heapsmeet."), path)
                    for alias in node.names:
                        self.assertIn(alias.name, defined[node.module[len("heapsmeet."):]], path)

    def test_no_two_files_import_from_each_other(self):
        needs = {
            path.stem: [node.module.split(".")[1] for node in tree.body if isinstance(node, ast.ImportFrom)]
            for path, tree in trees()
        }
        while needs:
            free = [name for name in needs if not needs[name]]
            self.assertTrue(free, needs)
            needs = {
                name: [other for other in others if other not in free]
                for name, others in needs.items() if name not in free
            }

    def test_module_level(self):
        allowed = (ast.FunctionDef, ast.ClassDef, ast.ImportFrom, ast.Assign)
        for path, tree in trees():
            self.assertIsNotNone(ast.get_docstring(tree), path)
            for node in tree.body[1:]:
                self.assertIsInstance(node, allowed, path)
            names = top_names(tree)
            self.assertEqual(len(names), len(set(names)), path)

    def test_names(self):
        for path, tree in trees():
            imported = {a.name for n in tree.body if isinstance(n, ast.ImportFrom) for a in n.names}
            for name in bound_names(tree):
                self.assertRegex(name, r"^([A-Za-z][A-Za-z0-9_]*|__init__|__eq__|__repr__|__str__|__len__)$", path)
                self.assertNotIn(name, BUILTINS, path)
                self.assertNotIn(name, BARRED_NAMES, path)
            inner = [
                part.id if isinstance(part, ast.Name) else part.arg
                for node in ast.walk(tree) if isinstance(node, ast.FunctionDef)
                for part in ast.walk(node)
                if isinstance(part, ast.arg) or isinstance(part, ast.Name) and isinstance(part.ctx, ast.Store)
            ]
            self.assertEqual(imported & set(inner), set(), path)

    def test_builtins_and_methods(self):
        for path, tree in trees():
            bound = set(bound_names(tree))
            own = {n.name for n in ast.walk(tree) if isinstance(n, ast.FunctionDef)}
            for node in ast.walk(tree):
                if isinstance(node, ast.Name) and isinstance(node.ctx, ast.Load) and node.id not in bound:
                    self.assertIn(node.id, ALLOWED_BUILTINS, path)
                if isinstance(node, ast.Call) and isinstance(node.func, ast.Attribute):
                    self.assertIn(node.func.attr, ALLOWED_METHODS | own, path)

    def test_no_barred_expressions_and_statements(self):
        barred = (
            ast.Div, ast.NamedExpr, ast.Global, ast.AsyncFunctionDef, ast.AsyncFor, ast.AsyncWith, ast.Await, ast.MatMult,
        )
        for path, tree in trees():
            for node in ast.walk(tree):
                self.assertNotIsInstance(node, barred, path)
                if isinstance(node, ast.Constant):
                    self.assertNotIsInstance(node.value, (float, complex), path)
                    if isinstance(node.value, str):
                        self.assertNotIn("%", node.value, path)
                if isinstance(node, ast.Compare):
                    for sort, side in zip(node.ops, node.comparators):
                        if isinstance(sort, (ast.Is, ast.IsNot)):
                            self.assertIsInstance(side, ast.Constant, path)


if __name__ == "__main__":
    unittest.main()
