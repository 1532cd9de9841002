"""Rules of the language subset that can be read off the source files of the package."""

import ast
import builtins
import pathlib
import re
import unittest

PACKAGE = pathlib.Path(__file__).resolve().parent.parent / "lookpast"

ALLOWED_BUILTINS = set(
    "len range enumerate zip min max sum abs sorted reversed int str bool bytes list tuple dict set frozenset"
    " isinstance ord repr any all divmod iter next super property staticmethod classmethod Exception ValueError"
    " TypeError KeyError IndexError LookupError ZeroDivisionError ArithmeticError OverflowError RuntimeError"
    " NotImplementedError StopIteration NotImplemented".split()
)
BUILTIN_METHODS = set(
    "append clear copy count endswith extend find get index insert isalnum isalpha isdigit islower isspace isupper"
    " items join keys ljust lower lstrip partition pop remove replace reverse rfind rjust rpartition rsplit rstrip"
    " setdefault split splitlines startswith strip update upper values zfill bit_length add discard sort"
    " removeprefix removesuffix isascii isdecimal".split()
)
DOUBLE_UNDERSCORES = {"__init__", "__eq__", "__repr__", "__str__", "__len__"}
BARRED_EVERYWHERE = set("register mro elements open input version_info with_traceback add_note".split())
BARRED_BUT_AS_ATTRIBUTES = set(
    "attrgetter breakpoint builtins compile copyright credits delattr dir eval exec exit gc getattr globals hasattr"
    " help id importlib license locals methodcaller os quit setattr vars".split()
)
BARRED_WORDS = re.compile(
    r"\b(type|typing|typing_extensions|enum|Enum|IntEnum|StrEnum|Flag|IntFlag|Generic|Protocol|ABC|ABCMeta|namedtuple"
    r"|NamedTuple|TypedDict|TYPE_CHECKING|abstractmethod)\b|dataclass|overload|contextmanager"
)
BARRED_NODES = (
    ast.Import, ast.Global, ast.AsyncFunctionDef, ast.AsyncFor, ast.AsyncWith, ast.Await, ast.Div, ast.MatMult,
    ast.GeneratorExp,
)
# Called to be iterated on the spot, and the builtins whose first argument they may be.
AT_ONCE = {"zip", "enumerate", "reversed", "range", "items", "keys", "values"}
ITERATING = {"list", "tuple", "dict", "sorted", "sum", "any", "all", "enumerate", "zip", "min", "max", "len"}
SET_METHODS = {"add", "discard"}
SET_BUILTINS = {"len", "sorted"}


def sources():
    return sorted(PACKAGE.glob("**/*.py"))


def trees():
    for path in sources():
        yield path, ast.parse(path.read_text(encoding="ascii"))


def nodes():
    for path, tree in trees():
        for node in ast.walk(tree):
            yield f"{path.name}:{getattr(node, 'lineno', 0)}", node


def called_name(node):
    """The name of the function or method that a node calls, or None."""
    if not isinstance(node, ast.Call):
        return None
    return getattr(node.func, "id", None) or getattr(node.func, "attr", None)


def parents():
    """Pairs of a node and a node directly inside it."""
    for place, node in nodes():
        for child in ast.iter_child_nodes(node):
            yield f"{place}-{getattr(child, 'lineno', 0)}", node, child


def is_set(node):
    return isinstance(node, (ast.Set, ast.SetComp)) or called_name(node) in ("set", "frozenset")


def names_in(node):
    """The names that a node binds."""
    if isinstance(node, (ast.FunctionDef, ast.ClassDef)):
        return [node.name]
    if isinstance(node, ast.arg):
        return [node.arg]
    if isinstance(node, ast.alias):
        return [node.asname or node.name]
    if isinstance(node, ast.Name) and not isinstance(node.ctx, ast.Load):
        return [node.id]
    if isinstance(node, ast.Attribute):
        return [node.attr]
    if isinstance(node, ast.ExceptHandler) and node.name:
        return [node.name]
    return []


def module_names(tree):
    found = []
    for statement in tree.body:
        if isinstance(statement, ast.Assign):
            found.extend(target.id for target in statement.targets)
        else:
            found.extend(names_in(statement))
            found.extend(alias.name for alias in getattr(statement, "names", []))
    return found


class Files(unittest.TestCase):
    def test_the_folder_has_only_source_files(self):
        for path in PACKAGE.glob("**/*"):
            if "__pycache__" not in path.parts:
                self.assertRegex(path.name, r"^([a-z][a-z0-9_]*|__init__|__main__)\.py$")

    def test_characters_and_sizes(self):
        for path in sources():
            rows = path.read_bytes().decode("ascii").split("\n")
            self.assertLessEqual(len(rows), 400, path.name)
            for at, row in enumerate(rows, start=1):
                self.assertRegex(row, r"^[ -~]{0,120}$", f"{path.name}:{at}")
                self.assertIsNone(BARRED_WORDS.search(row), f"{path.name}:{at}")

    def test_functions_are_short(self):
        for place, node in nodes():
            if isinstance(node, ast.FunctionDef):
                self.assertLessEqual(node.end_lineno - node.lineno + 1, 40, place)


class Modules(unittest.TestCase):
    def test_module_level(self):
        plain = (ast.FunctionDef, ast.ClassDef, ast.ImportFrom, ast.Assign)
        for path, tree in trees():
            for at, statement in enumerate(tree.body):
                is_docstring = at == 0 and isinstance(statement, ast.Expr) and ast.get_docstring(tree) is not None
                self.assertTrue(is_docstring or isinstance(statement, plain), f"{path.name}:{statement.lineno}")
            found = module_names(tree)
            self.assertEqual(len(found), len(set(found)), path.name)

    def test_imports_name_the_file_that_defines_the_name(self):
        defined = {}
        for path, tree in trees():
            own = [statement for statement in tree.body if not isinstance(statement, ast.ImportFrom)]
            defined["lookpast." + path.stem] = module_names(ast.Module(own, []))
        for place, node in nodes():
            if isinstance(node, ast.ImportFrom):
                self.assertEqual(node.level, 0, place)
                for alias in node.names:
                    self.assertIn(alias.name, defined.get(node.module, []), place)

    def test_no_two_files_import_from_each_other(self):
        wanted = {}
        for path, tree in trees():
            imports = [node.module for node in tree.body if isinstance(node, ast.ImportFrom)]
            wanted["lookpast." + path.stem] = set(imports)
        while wanted:
            free = [name for name in wanted if not wanted[name] & set(wanted)]
            self.assertTrue(free, sorted(wanted))
            for name in free:
                del wanted[name]


class Code(unittest.TestCase):
    def test_barred_statements_and_expressions(self):
        for place, node in nodes():
            self.assertNotIsInstance(node, BARRED_NODES, place)
            if isinstance(node, ast.Constant):
                self.assertNotIsInstance(node.value, (float, complex), place)
                self.assertNotIn("%", str(node.value), place)

    def test_is_only_with_singletons(self):
        for place, node in nodes():
            if isinstance(node, ast.Compare):
                for sign, other in zip(node.ops, node.comparators):
                    if isinstance(sign, (ast.Is, ast.IsNot)):
                        self.assertIn(getattr(other, "value", 0), (None, True, False), place)

    def test_names(self):
        for place, node in nodes():
            for name in names_in(node):
                if name not in DOUBLE_UNDERSCORES:
                    self.assertRegex(name, r"^[A-Za-z][A-Za-z0-9_]*$", place)
                    self.assertNotIn(name, BARRED_EVERYWHERE, place)
                    if not isinstance(node, ast.Attribute):
                        self.assertNotIn(name, BARRED_BUT_AS_ATTRIBUTES, place)

    def test_builtins(self):
        barred = set(dir(builtins)) - ALLOWED_BUILTINS
        for place, node in nodes():
            if isinstance(node, ast.Name):
                self.assertNotIn(node.id, barred, place)
                if not isinstance(node.ctx, ast.Load):
                    self.assertFalse(hasattr(builtins, node.id), place)
            if isinstance(node, ast.arg):
                self.assertFalse(hasattr(builtins, node.arg), place)

    def test_no_local_name_hides_an_import_or_a_class(self):
        for path, tree in trees():
            taken = set()
            for statement in tree.body:
                if isinstance(statement, (ast.ImportFrom, ast.ClassDef)):
                    taken.update(module_names(ast.Module([statement], [])))
            for statement in tree.body:
                if isinstance(statement, (ast.FunctionDef, ast.ClassDef)):
                    for node in ast.walk(statement):
                        if isinstance(node, (ast.Name, ast.arg)) and names_in(node):
                            self.assertNotIn(names_in(node)[0], taken, f"{path.name}:{node.lineno}")

    def test_powers_have_literal_exponents(self):
        for place, node in nodes():
            if isinstance(node, ast.BinOp) and isinstance(node.op, ast.Pow):
                self.assertIn(getattr(node.right, "value", None), range(65), place)

    def test_what_is_iterated_at_once(self):
        for place, node, child in parents():
            if called_name(child) in AT_ONCE:
                is_iterated = isinstance(node, (ast.For, ast.comprehension)) and node.iter is child
                is_first = called_name(node) in ITERATING and node.args[0] is child
                is_range = called_name(node) == "reversed" and called_name(child) == "range"
                is_tested = isinstance(node, ast.Compare)
                self.assertTrue(is_iterated or is_first or is_range or is_tested, place)

    def test_where_sets_stand(self):
        for place, node, child in parents():
            if is_set(child):
                is_stored = isinstance(node, ast.Assign) and isinstance(node.targets[0], ast.Name)
                is_read = called_name(node) in SET_BUILTINS or isinstance(node, (ast.Compare, ast.BinOp))
                self.assertTrue(is_stored or is_read, place)

    def test_how_stored_sets_are_used(self):
        for place, function in nodes():
            if isinstance(function, ast.FunctionDef):
                self.check_stored_sets(place, function)

    def check_stored_sets(self, place, function):
        inside = list(ast.walk(function))
        stored = [node.targets[0].id for node in inside if isinstance(node, ast.Assign) and is_set(node.value)]
        self.assertEqual(len(stored), len(set(stored)), place)
        for node in inside:
            for child in ast.iter_child_nodes(node):
                if isinstance(child, ast.Name) and child.id in stored and isinstance(child.ctx, ast.Load):
                    is_method = isinstance(node, ast.Attribute) and node.attr in SET_METHODS
                    is_read = called_name(node) in SET_BUILTINS or isinstance(node, (ast.Compare, ast.UnaryOp))
                    is_condition = isinstance(node, (ast.If, ast.While, ast.BoolOp))
                    self.assertTrue(is_method or is_read or is_condition, f"{place}: {child.id}")

    def test_keywords_of_builtins(self):
        allowed = {"sorted": {"key", "reverse"}, "min": {"key", "default"}, "max": {"key", "default"},
                   "sum": {"start"}, "enumerate": {"start"}, "zip": {"strict"}}
        for place, node in nodes():
            if isinstance(node, ast.Call) and isinstance(node.func, ast.Name) and hasattr(builtins, node.func.id):
                used = {keyword.arg for keyword in node.keywords}
                self.assertLessEqual(used, allowed.get(node.func.id, set()), place)

    def test_every_import_is_used(self):
        for path, tree in trees():
            used = {node.id for node in ast.walk(tree) if isinstance(node, ast.Name)}
            for statement in tree.body:
                if isinstance(statement, ast.ImportFrom):
                    self.assertLessEqual({alias.name for alias in statement.names}, used, path.name)

    def test_escapes(self):
        for path in sources():
            for at, row in enumerate(path.read_text(encoding="ascii").split("\n"), start=1):
                self.assertIsNone(re.search(r"""\\[^nt\\'"]""", row), f"{path.name}:{at}")

    def test_stars_stand_before_names(self):
        for place, node in nodes():
            if isinstance(node, ast.Starred):
                self.assertIsInstance(node.value, (ast.Name, ast.Attribute), place)
            if isinstance(node, ast.keyword):
                self.assertIsNotNone(node.arg, place)

    def test_tables_have_no_lists_or_dicts_inside(self):
        for path, tree in trees():
            for statement in tree.body:
                if isinstance(statement, ast.Assign):
                    inside = list(ast.walk(statement.value))[1:]
                    self.assertFalse([node for node in inside if isinstance(node, (ast.List, ast.Dict))], path.name)

    def test_functions_of_a_table_are_called_by_a_name(self):
        for place, node in nodes():
            if isinstance(node, ast.Call):
                self.assertIsInstance(node.func, (ast.Name, ast.Attribute), place)

    def test_methods(self):
        own = {node.name for place, node in nodes() if isinstance(node, ast.FunctionDef)}
        for place, node in nodes():
            if isinstance(node, ast.Call) and isinstance(node.func, ast.Attribute):
                self.assertIn(node.func.attr, BUILTIN_METHODS | own, place)


class Classes(unittest.TestCase):
    def classes(self):
        return [node for place, node in nodes() if isinstance(node, ast.ClassDef)]

    def methods(self):
        return {row.name for node in self.classes() for row in node.body if isinstance(row, ast.FunctionDef)}

    def assigned(self):
        found = [node for place, node in nodes() if isinstance(node, ast.Attribute)]
        return {node.attr for node in found if isinstance(node.ctx, ast.Store)}

    def test_no_name_is_a_method_and_an_attribute(self):
        self.assertEqual(self.methods() & self.assigned(), set())

    def test_names_are_not_those_of_builtin_values(self):
        # L26 allows some of these names; none is needed so far.
        builtin = set(dir(str)) | set(dir(list)) | set(dir(dict)) | set(dir(set)) | set(dir(bytes)) | set(dir(int))
        allowed = {"__init__", "__len__", "__eq__", "__repr__"}
        self.assertEqual((self.methods() | self.assigned()) & builtin, allowed)

    def test_attributes_that_are_read_are_assigned(self):
        for place, node, child in parents():
            is_method = isinstance(node, ast.Call) and node.func is child
            if isinstance(child, ast.Attribute) and isinstance(child.ctx, ast.Load) and not is_method:
                self.assertIn(child.attr, self.assigned(), place)

    def test_attributes_are_assigned_through_a_local_name(self):
        for place, node in nodes():
            if isinstance(node, ast.Attribute) and isinstance(node.ctx, ast.Store):
                self.assertIsInstance(node.value, ast.Name, place)
                self.assertTrue(node.value.id.islower(), place)

    def test_bodies_have_methods_only(self):
        for node in self.classes():
            self.assertIsNotNone(ast.get_docstring(node), node.name)
            for row in node.body[1:]:
                self.assertIsInstance(row, ast.FunctionDef, node.name)
                self.assertEqual(row.decorator_list, [], node.name)

    def test_what_shows_and_counts_ends_with_its_return(self):
        for place, node in nodes():
            if isinstance(node, ast.FunctionDef) and node.name in DOUBLE_UNDERSCORES - {"__init__"}:
                self.assertEqual([type(row) for row in node.body], [ast.Return], place)

    def test_lists_are_not_sorted_in_place(self):
        for place, node in nodes():
            self.assertNotEqual(called_name(node), "sort", place)


class Errors(unittest.TestCase):
    def own_errors(self):
        return {node.name for place, node in nodes() if isinstance(node, ast.ClassDef) and place.startswith("errors.py")}

    def test_handlers_name_own_errors(self):
        for place, node in nodes():
            if isinstance(node, ast.ExceptHandler):
                named = node.type.elts if isinstance(node.type, ast.Tuple) else [node.type]
                self.assertTrue(named, place)
                for name in named:
                    self.assertIn(name.id, self.own_errors(), place)

    def test_errors_are_created_where_they_are_raised(self):
        bare = 0
        for place, node in nodes():
            if isinstance(node, ast.Raise) and node.exc is not None:
                self.assertIsInstance(node.exc, ast.Call, place)
                self.assertIn(node.exc.func.id, self.own_errors(), place)
                self.assertIsNone(getattr(node.cause, "value", None), place)
            bare += isinstance(node, ast.Raise) and node.exc is None
        for place, node in nodes():
            if isinstance(node, ast.ExceptHandler):
                bare -= sum(isinstance(inside, ast.Raise) and inside.exc is None for inside in ast.walk(node))
        self.assertEqual(bare, 0)


if __name__ == "__main__":
    unittest.main()
