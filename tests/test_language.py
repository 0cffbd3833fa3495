"""The package keeps to the subset of Python that it is written in, as far as its files show it plainly."""

import ast
import builtins
import pathlib
import re
import unittest

PACKAGE = pathlib.Path(__file__).resolve().parent.parent / "whatturns"
FILES = sorted(path for path in PACKAGE.rglob("*") if "__pycache__" not in path.parts)
BUILTINS = set("""
len range enumerate zip min max sum abs sorted reversed int str bool bytes list tuple dict set frozenset isinstance ord
repr any all divmod iter next map Exception ValueError TypeError KeyError IndexError LookupError ZeroDivisionError
ArithmeticError OverflowError RuntimeError NotImplementedError AttributeError StopIteration NotImplemented super
property staticmethod classmethod""".split())
METHODS = set("""
append clear copy count endswith extend find get index insert isalnum isalpha isdigit islower isspace isupper items
join keys ljust lower lstrip partition pop remove replace reverse rfind rjust rpartition rsplit rstrip setdefault split
splitlines startswith strip update upper values zfill bit_length isascii removeprefix removesuffix add discard
__init__""".split())
BARRED_NAMES = set("""
register mro elements open input law version_info with_traceback add_note attrgetter breakpoint builtins compile
copyright credits delattr dir eval exec exit gc getattr globals hasattr help id importlib license locals methodcaller os
quit setattr type vars sys object hash format filter""".split())
BARRED_WORDS = re.compile(r"\b(typing|typing_extensions|enum|Enum|IntEnum|StrEnum|Flag|IntFlag|Generic|Protocol|ABC"
                          r"|ABCMeta|namedtuple|NamedTuple|TypedDict|TYPE_CHECKING|abstractmethod)\b"
                          r"|dataclass|overload|contextmanager|_wall|_WallAttr")
STATEMENTS = (ast.Import, ast.Global, ast.AsyncFunctionDef, ast.AsyncFor, ast.AsyncWith, ast.Await, ast.Div)


def trees():
    return {path: ast.parse(path.read_text()) for path in FILES}


def called_name(node):
    return node.func.id if isinstance(node, ast.Call) and isinstance(node.func, ast.Name) else None


def is_lazy(function):
    if isinstance(function, ast.Attribute):
        return function.attr in ("items", "keys", "values")
    return isinstance(function, ast.Name) and function.id in ("zip", "enumerate", "reversed", "range", "map")


def is_iterated(node, above):
    if isinstance(above, (ast.For, ast.comprehension)):
        return above.iter is node
    return called_name(above) in ("list", "tuple", "dict", "sorted", "sum", "any", "all", "enumerate", "zip", "min",
                                  "max", "reversed", "len")


def is_set(node):
    return isinstance(node, (ast.SetComp, ast.Set)) or called_name(node) == "set"


class Files(unittest.TestCase):
    def test_plain_files_in_one_folder(self):
        for path in FILES:
            self.assertRegex(path.name, r"^[a-z0-9_]+\.py$")
            self.assertEqual(path.parent, PACKAGE)
        self.assertIn(PACKAGE / "__init__.py", FILES)
        self.assertLessEqual(len(FILES), 100)

    def test_sizes_and_characters(self):
        for path in FILES:
            lines = path.read_bytes().decode("ascii").split("\n")
            self.assertLess(len(lines), 400, path)
            for line in lines:
                self.assertLessEqual(len(line), 120, path)
                self.assertTrue(all(" " <= sign <= "~" for sign in line), path)
            self.assertIsNone(BARRED_WORDS.search("\n".join(lines)), path)

    def test_functions_of_at_most_forty_lines(self):
        for path, tree in trees().items():
            for node in ast.walk(tree):
                if isinstance(node, ast.FunctionDef):
                    self.assertLessEqual(node.end_lineno - node.lineno + 1, 40, (path, node.name))


class Imports(unittest.TestCase):
    def test_full_names_of_what_a_file_defines(self):
        for path, tree in trees().items():
            for node in ast.walk(tree):
                self.assertNotIsInstance(node, ast.Import, path)
                if isinstance(node, ast.ImportFrom) and node.module not in ("heapq", "math", "itertools"):
                    self.assertEqual((node.level, node.module.split(".")[0]), (0, "whatturns"), path)
                    found = ast.parse((PACKAGE / f"{node.module.split('.')[1]}.py").read_text()).body
                    names = {part.name for part in found if isinstance(part, (ast.FunctionDef, ast.ClassDef))}
                    names |= {target.id for part in found if isinstance(part, ast.Assign) for target in part.targets}
                    self.assertLessEqual({alias.name for alias in node.names}, names, path)

    def test_no_two_files_import_from_each_other(self):
        needs = {path.stem: {node.module.split(".")[1] for node in ast.walk(tree) if isinstance(node, ast.ImportFrom)
                             and node.module.startswith("whatturns.")} for path, tree in trees().items()}
        while needs:
            free = [name for name, others in needs.items() if not others & set(needs)]
            self.assertNotEqual(free, [], needs)
            needs = {name: others for name, others in needs.items() if name not in free}


class Words(unittest.TestCase):
    def test_statements(self):
        for path, tree in trees().items():
            for part in tree.body:
                allowed = (ast.ImportFrom, ast.FunctionDef, ast.ClassDef, ast.Assign)
                docstring = isinstance(part, ast.Expr) and isinstance(part.value, ast.Constant)
                self.assertTrue(docstring or isinstance(part, allowed), path)
            for node in ast.walk(tree):
                self.assertNotIsInstance(node, STATEMENTS, path)
                if isinstance(node, ast.Constant):
                    self.assertIsInstance(node.value, (int, str, bool, bytes, type(None)), path)
                    self.assertFalse(isinstance(node.value, str) and "%" in node.value, path)

    def test_names(self):
        for path, tree in trees().items():
            for node in ast.walk(tree):
                if isinstance(node, ast.Name):
                    self.assertNotIn(node.id, BARRED_NAMES, path)
                    if node.id in dir(builtins):
                        self.assertIn(node.id, BUILTINS, path)
                        self.assertIsInstance(node.ctx, ast.Load, path)
                if isinstance(node, ast.arg):
                    self.assertNotIn(node.arg, BARRED_NAMES | set(dir(builtins)), path)

    def test_methods(self):
        nodes = [node for tree in trees().values() for node in ast.walk(tree)]
        own = {node.name for node in nodes if isinstance(node, ast.FunctionDef)}
        for node in nodes:
            if isinstance(node, ast.Call) and isinstance(node.func, ast.Attribute):
                self.assertIn(node.func.attr, METHODS | own)

    def test_names_of_methods_and_attributes(self):
        nodes = [node for tree in trees().values() for node in ast.walk(tree)]
        methods = [part for node in nodes if isinstance(node, ast.ClassDef) for part in node.body
                   if isinstance(part, ast.FunctionDef)]
        names = {method.name for method in methods}
        stored = {node.attr for node in nodes if isinstance(node, ast.Attribute) and isinstance(node.ctx, ast.Store)}
        self.assertEqual(names & stored, set())
        decorated = {method.name for method in methods if method.decorator_list}
        plain = {method.name for method in methods if not method.decorator_list}
        self.assertEqual(decorated & plain, set())
        generators = [node.name for node in nodes if isinstance(node, ast.FunctionDef)
                      and any(isinstance(part, (ast.Yield, ast.YieldFrom)) for part in ast.walk(node))]
        functions = [node.name for node in nodes if isinstance(node, ast.FunctionDef)]
        for name in generators:
            self.assertEqual(functions.count(name), 1)

    def test_names_of_one_file_have_one_meaning(self):
        for path, tree in trees().items():
            nodes = list(ast.walk(tree))
            imported = {alias.name for node in nodes if isinstance(node, ast.ImportFrom) for alias in node.names}
            defined = {part.name for part in tree.body if isinstance(part, (ast.FunctionDef, ast.ClassDef))}
            assigned = {node.id for node in nodes if isinstance(node, ast.Name) and isinstance(node.ctx, ast.Store)}
            assigned |= {node.arg for node in nodes if isinstance(node, ast.arg)}
            self.assertEqual((imported | defined) & assigned, set(), path)
            self.assertEqual(imported & defined, set(), path)
            used = {node.id for node in nodes if isinstance(node, ast.Name) and isinstance(node.ctx, ast.Load)}
            self.assertEqual(imported - used, set(), path)

    def test_what_is_iterated_at_once(self):
        for path, tree in trees().items():
            above = {child: node for node in ast.walk(tree) for child in ast.iter_child_nodes(node)}
            for node in ast.walk(tree):
                if isinstance(node, ast.Call) and is_lazy(node.func):
                    self.assertTrue(is_iterated(node, above[node]), (path, node.lineno))
                if is_set(node):
                    self.assertIn(called_name(above[node]), ("sorted", "len"), (path, node.lineno))
                if isinstance(node, ast.Call):
                    self.assertIsInstance(node.func, (ast.Name, ast.Attribute), (path, node.lineno))

    def test_is_only_with_none_true_and_false(self):
        for path, tree in trees().items():
            for node in ast.walk(tree):
                if isinstance(node, ast.Compare) and isinstance(node.ops[0], (ast.Is, ast.IsNot)):
                    self.assertIsInstance(node.comparators[0], ast.Constant, path)

    def test_sorted_and_the_like_take_lists(self):
        for path, tree in trees().items():
            for node in ast.walk(tree):
                self.assertNotIsInstance(node, ast.GeneratorExp, path)
