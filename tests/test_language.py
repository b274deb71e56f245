"""Holds the package against those rules for its code (L1 to L28) that can be seen at once."""

import ast
import builtins
import pathlib
import re
import unittest

PACKAGE = pathlib.Path(__file__).resolve().parent.parent / "handkept"

BUILTINS = set(
    "len range enumerate zip min max sum abs sorted reversed int str bool bytes list tuple dict set frozenset isinstance"
    " ord repr any all divmod iter next map super property staticmethod classmethod Exception ValueError TypeError"
    " KeyError IndexError LookupError ZeroDivisionError ArithmeticError OverflowError RuntimeError NotImplementedError"
    " AttributeError StopIteration NotImplemented".split())
METHODS = set(
    "append clear copy count endswith extend find get index insert isalnum isalpha isdigit islower isspace isupper items"
    " join keys ljust lower lstrip partition pop remove replace reverse rfind rjust rpartition rsplit rstrip setdefault"
    " split splitlines startswith strip update upper values zfill bit_length title capitalize swapcase casefold center"
    " expandtabs removeprefix removesuffix rindex isascii isdecimal isnumeric istitle isidentifier isprintable add"
    " discard sort".split())
KEYWORDS = {"sorted": ("key", "reverse"), "min": ("key", "default"), "max": ("key", "default"), "sum": ("start",),
            "enumerate": ("start",), "zip": ("strict",)}
LIBRARY = {"heapq": {"heappush", "heappop", "heapify", "heapreplace", "heappushpop"},
           "math": {"gcd", "lcm", "isqrt", "comb", "perm", "factorial"},
           "itertools": {"product", "combinations", "permutations"}}
NEVER_NAMES = set("register mro elements open input law version_info with_traceback add_note".split())
NO_NAMES = set(
    "attrgetter breakpoint builtins compile copyright credits delattr dir eval exec exit gc getattr globals hasattr help"
    " id importlib license locals methodcaller os quit setattr super type vars sys".split())
NO_WORDS = re.compile(
    r"\b(typing|typing_extensions|enum|Enum|IntEnum|StrEnum|Flag|IntFlag|Generic|Protocol|ABC|ABCMeta|namedtuple"
    r"|NamedTuple|TypedDict|TYPE_CHECKING|abstractmethod|_wall|_WallAttr)\b|dataclass|overload|contextmanager")
NOT_ALLOWED = (
    ast.Global, ast.AsyncFunctionDef, ast.AsyncFor, ast.AsyncWith, ast.Await, ast.Div, ast.MatMult, ast.TryStar)
STATEMENTS = (ast.Expr, ast.ImportFrom, ast.FunctionDef, ast.ClassDef, ast.Assign)
METHODS_OF_CLASSES = set("__init__ __eq__ __repr__ __str__ __len__ __enter__ __exit__ __call__ __iter__".split())
TAKE_LISTS = ("any", "all", "min", "max", "sum", "sorted")


def files():
    return sorted(PACKAGE.glob("**/*.py"))


def trees():
    return [(path.name, ast.parse(path.read_text())) for path in files()]


def nodes(*sorts):
    return [(name, node) for name, tree in trees() for node in ast.walk(tree) if isinstance(node, sorts)]


def names_that_are_bound():
    """All (file, name) of variables, functions, classes, parameters, attributes and keywords."""
    found = []
    for name, node in nodes(ast.Name, ast.FunctionDef, ast.ClassDef, ast.arg, ast.Attribute, ast.keyword, ast.alias):
        if isinstance(node, ast.Name):
            found += [(name, node.id)] if isinstance(node.ctx, ast.Store) else []
        else:
            found.append((name, next(getattr(node, part) for part in ("name", "attr", "arg") if hasattr(node, part))))
    return found


class Files(unittest.TestCase):
    def test_the_folder_holds_plain_files_alone(self):
        for path in PACKAGE.iterdir():
            if path.name != "__pycache__":
                self.assertRegex(path.name, r"^[a-z0-9_]+\.py$")
        self.assertTrue((PACKAGE / "__init__.py").exists())

    def test_sizes_and_characters(self):
        for path in files():
            text = path.read_text()
            lines = text.split("\n")
            self.assertLessEqual(len(lines), 399, path.name)
            self.assertLessEqual(max(len(line) for line in lines), 120, path.name)
            self.assertRegex(text, r"^[ -~\n]*$")
            self.assertIsNone(NO_WORDS.search(text), path.name)

    def test_functions_are_small(self):
        for name, node in nodes(ast.FunctionDef):
            self.assertLessEqual(node.end_lineno - node.lineno + 1, 40, (name, node.name))


class Modules(unittest.TestCase):
    def test_module_level(self):
        for name, tree in trees():
            for node in tree.body:
                self.assertIsInstance(node, STATEMENTS, name)
                if isinstance(node, ast.Expr):
                    self.assertIsInstance(node.value.value, str)

    def test_imports(self):
        for name, node in nodes(ast.Import, ast.ImportFrom):
            self.assertIsInstance(node, ast.ImportFrom, name)
            self.assertEqual((node.level, [alias.asname for alias in node.names]), (0, [None] * len(node.names)))
            wanted = {alias.name for alias in node.names}
            if node.module in LIBRARY:
                self.assertLessEqual(wanted, LIBRARY[node.module])
                continue
            package, _, module = node.module.partition(".")
            self.assertEqual(package, "handkept", name)
            tree = ast.parse((PACKAGE / (module + ".py")).read_text())
            self.assertLessEqual(wanted, set(bound_at_module_level(tree)), name)

    def test_no_two_files_import_each_other(self):
        near = {}
        for name, node in nodes(ast.ImportFrom):
            near.setdefault(name, set()).add(node.module.partition(".")[2] + ".py")
        done = set()
        while True:
            free = [name for name, _ in trees() if name not in done and near.get(name, set()) - {".py"} <= done]
            if not free:
                break
            done.update(free)
        self.assertEqual(done, {name for name, _ in trees()})

    def test_names_are_bound_once_at_module_level(self):
        for name, tree in trees():
            bound = bound_at_module_level(tree)
            imported = [alias.name for node in tree.body if isinstance(node, ast.ImportFrom) for alias in node.names]
            self.assertEqual(len(bound + imported), len(set(bound + imported)), name)


def bound_at_module_level(tree):
    bound = []
    for node in tree.body:
        if isinstance(node, (ast.FunctionDef, ast.ClassDef)):
            bound.append(node.name)
        elif isinstance(node, ast.Assign):
            bound += [target.id for target in node.targets]
    return bound


class Names(unittest.TestCase):
    def test_names(self):
        for name, bound in names_that_are_bound():
            self.assertNotIn(bound, NEVER_NAMES, name)
            if bound in METHODS_OF_CLASSES or bound in METHODS:
                continue
            self.assertRegex(bound, r"^(_|_?[A-Za-z][A-Za-z0-9_]*)$", name)
            self.assertNotRegex(bound, r"^(_pe_|_dcw_|_enum_|_cm_|_twin_re_|_lay_|_law_|_stub_|_sre|_cold|_record)", name)

    def test_no_name_of_a_builtin(self):
        for name, node in nodes(ast.Name, ast.FunctionDef, ast.ClassDef, ast.arg):
            bound = getattr(node, "id", None) or getattr(node, "name", None) or getattr(node, "arg", None)
            if isinstance(node, ast.Name) and not isinstance(node.ctx, ast.Store):
                continue
            self.assertNotIn(bound, vars(builtins), name)
            self.assertNotIn(bound, NO_NAMES, name)

    def test_no_name_of_a_class_or_an_import_of_the_file(self):
        for name, tree in trees():
            taken = {alias.name for node in tree.body if isinstance(node, ast.ImportFrom) for alias in node.names}
            taken |= {node.name for node in tree.body if isinstance(node, ast.ClassDef)}
            for node in ast.walk(tree):
                if isinstance(node, ast.arg):
                    self.assertNotIn(node.arg, taken, (name, node.lineno))
                if isinstance(node, ast.Name) and isinstance(node.ctx, ast.Store):
                    self.assertNotIn(node.id, taken, (name, node.lineno))

    def test_generators(self):
        functions = [node for _, node in nodes(ast.FunctionDef)]
        yielding = [node.name for node in functions if any(isinstance(part, ast.Yield) for part in ast.walk(node))]
        for name in yielding:
            self.assertEqual([node.name for node in functions].count(name), 1, name)
        for name, tree in trees():
            iterated = [node.iter for node in ast.walk(tree) if isinstance(node, (ast.For, ast.comprehension))]
            for node in ast.walk(tree):
                if isinstance(node, ast.Call):
                    called = getattr(node.func, "attr", None) or getattr(node.func, "id", None)
                    self.assertTrue(called not in yielding or node in iterated, (name, node.lineno))

    def test_what_is_thrown_away_is_not_read(self):
        for name, node in nodes(ast.Name):
            self.assertFalse(node.id == "_" and isinstance(node.ctx, ast.Load), name)

    def test_no_name_is_a_method_and_an_attribute(self):
        methods = {part.name for _, node in nodes(ast.ClassDef) for part in node.body if isinstance(part, ast.FunctionDef)}
        stored = {node.attr for _, node in nodes(ast.Attribute) if isinstance(node.ctx, ast.Store)}
        self.assertEqual(methods & stored, set())
        read = {node.attr for _, node in nodes(ast.Attribute) if isinstance(node.ctx, ast.Load)}
        self.assertLessEqual(read, methods | stored | METHODS | {"__init__"})


class Code(unittest.TestCase):
    def test_statements_and_values(self):
        for name, node in nodes(ast.AST):
            self.assertNotIsInstance(node, NOT_ALLOWED, (name, getattr(node, "lineno", None)))
            if isinstance(node, ast.Constant):
                self.assertNotIsInstance(node.value, (float, complex), name)
                if isinstance(node.value, str):
                    self.assertNotIn("%", node.value, (name, node.lineno))

    def test_builtins(self):
        for name, tree in trees():
            for node in ast.walk(tree):
                if isinstance(node, ast.Name) and node.id in vars(builtins):
                    self.assertIn(node.id, BUILTINS, (name, node.lineno))

    def test_keywords_of_builtins_and_lists_for_them(self):
        for name, node in nodes(ast.Call):
            if isinstance(node.func, ast.Name) and node.func.id in BUILTINS:
                called = node.func.id
                for keyword in node.keywords:
                    self.assertIn(keyword.arg, KEYWORDS.get(called, ()), (name, node.lineno))
                if called in TAKE_LISTS:
                    self.assertFalse(any(isinstance(part, ast.GeneratorExp) for part in node.args), (name, node.lineno))
            if isinstance(node.func, ast.Attribute) and node.func.attr in METHODS:
                self.assertEqual(node.keywords if node.func.attr != "sort" else [], [], (name, node.lineno))

    def test_stars_of_calls_stand_before_names_and_attributes(self):
        for name, node in nodes(ast.Call):
            for part in node.args:
                if isinstance(part, ast.Starred):
                    self.assertIsInstance(part.value, (ast.Name, ast.Attribute), (name, node.lineno))

    def test_is_stands_beside_none_true_and_false(self):
        for name, node in nodes(ast.Compare):
            for sign, right in zip(node.ops, node.comparators):
                if isinstance(sign, (ast.Is, ast.IsNot)):
                    self.assertTrue(isinstance(right, ast.Constant), (name, node.lineno))

    def test_sets_are_not_iterated(self):
        sets = [(name, node) for name, node in nodes(ast.For, ast.comprehension)
                if isinstance(node.iter, (ast.Set, ast.SetComp))]
        self.assertEqual(sets, [])

    def test_errors_are_raised_on_the_spot(self):
        for name, node in nodes(ast.Raise):
            self.assertTrue(node.exc is None or isinstance(node.exc.func, ast.Name), (name, node.lineno))

    def test_handlers_name_errors(self):
        for name, node in nodes(ast.ExceptHandler):
            self.assertIsNotNone(node.type, (name, node.lineno))

    def test_escapes(self):
        for path in files():
            self.assertIsNone(re.search(r"\\[^nt\\'\"]", path.read_text()), path.name)


if __name__ == "__main__":
    unittest.main()
