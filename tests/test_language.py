"""Rules of the language subset that can be read off the source files of the package."""

import ast
import builtins
import pathlib
import re
import unittest

PACKAGE = pathlib.Path(__file__).resolve().parent.parent / "lookpast"

ALLOWED_BUILTINS = set(
    "len range enumerate zip min max sum abs sorted reversed int str bool bytes list tuple dict set frozenset"
    " isinstance ord repr any all divmod iter next super property staticmethod classmethod Exception ValueError"
    " TypeError KeyError IndexError LookupError ZeroDivisionError ArithmeticError OverflowError RuntimeError"
    " NotImplementedError StopIteration NotImplemented".split()
)
BUILTIN_METHODS = set(
    "append clear copy count endswith extend find get index insert isalnum isalpha isdigit islower isspace isupper"
    " items join keys ljust lower lstrip partition pop remove replace reverse rfind rjust rpartition rsplit rstrip"
    " setdefault split splitlines startswith strip update upper values zfill bit_length add discard sort"
    " removeprefix removesuffix isascii isdecimal".split()
)
DOUBLE_UNDERSCORES = {"__init__", "__eq__", "__repr__", "__str__", "__len__"}
BARRED_EVERYWHERE = set("register mro elements open input version_info with_traceback add_note".split())
BARRED_BUT_AS_ATTRIBUTES = set(
    "attrgetter breakpoint builtins compile copyright credits delattr dir eval exec exit gc getattr globals hasattr"
    " help id importlib license locals methodcaller os quit setattr vars".split()
)
BARRED_WORDS = re.compile(
    r"\b(type|typing|typing_extensions|enum|Enum|IntEnum|StrEnum|Flag|IntFlag|Generic|Protocol|ABC|ABCMeta|namedtuple"
    r"|NamedTuple|TypedDict|TYPE_CHECKING|abstractmethod)\b|dataclass|overload|contextmanager"
)
BARRED_NODES = (
    ast.Import, ast.Global, ast.AsyncFunctionDef, ast.AsyncFor, ast.AsyncWith, ast.Await, ast.Div, ast.MatMult,
)


def sources():
    return sorted(PACKAGE.glob("**/*.py"))


def trees():
    for path in sources():
        yield path, ast.parse(path.read_text(encoding="ascii"))


def nodes():
    for path, tree in trees():
        for node in ast.walk(tree):
            yield f"{path.name}:{getattr(node, 'lineno', 0)}", node


def names_in(node):
    """The names that a node binds."""
    if isinstance(node, (ast.FunctionDef, ast.ClassDef)):
        return [node.name]
    if isinstance(node, ast.arg):
        return [node.arg]
    if isinstance(node, ast.alias):
        return [node.asname or node.name]
    if isinstance(node, ast.Name) and not isinstance(node.ctx, ast.Load):
        return [node.id]
    if isinstance(node, ast.Attribute):
        return [node.attr]
    if isinstance(node, ast.ExceptHandler) and node.name:
        return [node.name]
    return []


def module_names(tree):
    found = []
    for statement in tree.body:
        if isinstance(statement, ast.Assign):
            found.extend(target.id for target in statement.targets)
        else:
            found.extend(names_in(statement))
            found.extend(alias.name for alias in getattr(statement, "names", []))
    return found


class Files(unittest.TestCase):
    def test_the_folder_has_only_source_files(self):
        for path in PACKAGE.glob("**/*"):
            if "__pycache__" not in path.parts:
                self.assertRegex(path.name, r"^([a-z][a-z0-9_]*|__init__|__main__)\.py$")

    def test_characters_and_sizes(self):
        for path in sources():
            rows = path.read_bytes().decode("ascii").split("\n")
            self.assertLessEqual(len(rows), 400, path.name)
            for at, row in enumerate(rows, start=1):
                self.assertRegex(row, r"^[ -~]{0,120}$", f"{path.name}:{at}")
                self.assertIsNone(BARRED_WORDS.search(row), f"{path.name}:{at}")

    def test_functions_are_short(self):
        for place, node in nodes():
            if isinstance(node, ast.FunctionDef):
                self.assertLessEqual(node.end_lineno - node.lineno + 1, 40, place)


class Modules(unittest.TestCase):
    def test_module_level(self):
        plain = (ast.FunctionDef, ast.ClassDef, ast.ImportFrom, ast.Assign)
        for path, tree in trees():
            for at, statement in enumerate(tree.body):
                is_docstring = at == 0 and isinstance(statement, ast.Expr) and ast.get_docstring(tree) is not None
                self.assertTrue(is_docstring or isinstance(statement, plain), f"{path.name}:{statement.lineno}")
            found = module_names(tree)
            self.assertEqual(len(found), len(set(found)), path.name)

    def test_imports_name_the_file_that_defines_the_name(self):
        defined = {}
        for path, tree in trees():
            own = [statement for statement in tree.body if not isinstance(statement, ast.ImportFrom)]
            defined["lookpast." + path.stem] = module_names(ast.Module(own, []))
        for place, node in nodes():
            if isinstance(node, ast.ImportFrom):
                self.assertEqual(node.level, 0, place)
                for alias in node.names:
                    self.assertIn(alias.name, defined.get(node.module, []), place)

    def test_no_two_files_import_from_each_other(self):
        wanted = {}
        for path, tree in trees():
            imports = [node.module for node in tree.body if isinstance(node, ast.ImportFrom)]
            wanted["lookpast." + path.stem] = set(imports)
        while wanted:
            free = [name for name in wanted if not wanted[name] & set(wanted)]
            self.assertTrue(free, sorted(wanted))
            for name in free:
                del wanted[name]


class Code(unittest.TestCase):
    def test_barred_statements_and_expressions(self):
        for place, node in nodes():
            self.assertNotIsInstance(node, BARRED_NODES, place)
            if isinstance(node, ast.Constant):
                self.assertNotIsInstance(node.value, (float, complex), place)
                self.assertNotIn("%", str(node.value), place)

    def test_is_only_with_singletons(self):
        for place, node in nodes():
            if isinstance(node, ast.Compare):
                for sign, other in zip(node.ops, node.comparators):
                    if isinstance(sign, (ast.Is, ast.IsNot)):
                        self.assertIn(getattr(other, "value", 0), (None, True, False), place)

    def test_names(self):
        for place, node in nodes():
            for name in names_in(node):
                if name not in DOUBLE_UNDERSCORES:
                    self.assertRegex(name, r"^[A-Za-z][A-Za-z0-9_]*$", place)
                    self.assertNotIn(name, BARRED_EVERYWHERE, place)
                    if not isinstance(node, ast.Attribute):
                        self.assertNotIn(name, BARRED_BUT_AS_ATTRIBUTES, place)

    def test_builtins(self):
        barred = set(dir(builtins)) - ALLOWED_BUILTINS
        for place, node in nodes():
            if isinstance(node, ast.Name):
                self.assertNotIn(node.id, barred, place)
                if not isinstance(node.ctx, ast.Load):
                    self.assertFalse(hasattr(builtins, node.id), place)
            if isinstance(node, ast.arg):
                self.assertFalse(hasattr(builtins, node.arg), place)

    def test_no_local_name_hides_an_import_or_a_class(self):
        for path, tree in trees():
            taken = set()
            for statement in tree.body:
                if isinstance(statement, (ast.ImportFrom, ast.ClassDef)):
                    taken.update(module_names(ast.Module([statement], [])))
            for statement in tree.body:
                if isinstance(statement, (ast.FunctionDef, ast.ClassDef)):
                    for node in ast.walk(statement):
                        if isinstance(node, (ast.Name, ast.arg)) and names_in(node):
                            self.assertNotIn(names_in(node)[0], taken, f"{path.name}:{node.lineno}")

    def test_methods(self):
        own = {node.name for place, node in nodes() if isinstance(node, ast.FunctionDef)}
        for place, node in nodes():
            if isinstance(node, ast.Call) and isinstance(node.func, ast.Attribute):
                self.assertIn(node.func.attr, BUILTIN_METHODS | own, place)


if __name__ == "__main__":
    unittest.main()
