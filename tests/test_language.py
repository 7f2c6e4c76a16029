"""Rules of the language subset in which the package is written, as far as a short look at the code can tell.

The rules are L1 to L28 of LANGUAGE.md; a test that names a rule looks at some of what it says, not at all of it.
"""

import ast
import builtins
import pathlib
import re
import unittest

PACKAGE = pathlib.Path(__file__).resolve().parent.parent / "methodworlds"

# The names that every module has are no names that a program could use.
BUILTIN_NAMES = {name for name in dir(builtins) if not name.startswith("_")}

LIBRARY = {
    "heapq": {"heappush", "heappop", "heapify", "heapreplace", "heappushpop"},
    "math": {"gcd", "lcm", "isqrt", "comb", "perm", "factorial"},
    "itertools": set("product combinations permutations chain accumulate pairwise islice zip_longest".split()),
    "collections": {"defaultdict", "deque"},
}

BUILTINS = set(
    "len range enumerate zip min max sum abs sorted reversed int str bool bytes list tuple dict set frozenset "
    "isinstance ord repr any all divmod pow getattr hasattr setattr super property staticmethod classmethod "
    "object map iter next Exception ValueError TypeError KeyError IndexError LookupError ZeroDivisionError "
    "ArithmeticError OverflowError RuntimeError NotImplementedError AttributeError StopIteration NotImplemented".split()
)

METHODS = set(
    "append clear copy count endswith extend find get index insert isalnum isalpha isdigit islower isspace isupper "
    "items join keys ljust lower lstrip partition pop remove replace reverse rfind rjust rpartition rsplit rstrip "
    "setdefault split splitlines startswith strip update upper values zfill bit_length add discard title capitalize "
    "swapcase casefold center expandtabs removeprefix removesuffix rindex isascii isdecimal isnumeric istitle "
    "isidentifier isprintable translate encode decode hex appendleft popleft extendleft rotate from_iterable "
    "format".split()
)

DUNDERS = set("__init__ __eq__ __repr__ __str__ __len__ __enter__ __exit__ __call__ __iter__".split())

STATEMENTS = (
    ast.FunctionDef, ast.ClassDef, ast.Return, ast.Delete, ast.Assign, ast.AugAssign, ast.AnnAssign, ast.For,
    ast.While, ast.If, ast.With, ast.Match, ast.Raise, ast.Try, ast.Assert, ast.ImportFrom, ast.Nonlocal, ast.Global,
    ast.Expr, ast.Pass, ast.Break, ast.Continue,
)

BARRED_NAMES = "mro elements open input law version_info with_traceback add_note register".split()

BARRED_WORDS = (
    "typing typing_extensions enum Enum IntEnum StrEnum Flag IntFlag Generic Protocol ABC ABCMeta namedtuple "
    "NamedTuple TypedDict TYPE_CHECKING abstractmethod dataclass overload contextmanager eval exec globals locals"
).split()


def package_files():
    return sorted(PACKAGE.rglob("*.py"))


def names_bound(tree):
    for node in ast.walk(tree):
        if isinstance(node, ast.Name) and not isinstance(node.ctx, ast.Load):
            yield node.id
        elif isinstance(node, (ast.FunctionDef, ast.ClassDef)):
            yield node.name
        elif isinstance(node, ast.arg):
            yield node.arg


class TestLanguage(unittest.TestCase):
    def setUp(self):
        self.sources = {path: path.read_text(encoding="utf-8") for path in package_files()}
        self.trees = {path: ast.parse(source) for path, source in self.sources.items()}
        self.own = {
            node.name for tree in self.trees.values() for node in ast.walk(tree)
            if isinstance(node, (ast.FunctionDef, ast.ClassDef))
        }

    def nodes(self, kind):
        for path, tree in self.trees.items():
            for node in ast.walk(tree):
                if isinstance(node, kind):
                    yield (path.name, node.lineno), node

    def test_l1_l14_files(self):
        for path in PACKAGE.rglob("*"):
            if "__pycache__" not in path.parts:
                self.assertTrue(path.is_dir() or re.fullmatch(r"[a-z0-9_]+\.py", path.name), path)
                self.assertFalse(path.stem in BUILTIN_NAMES or path.stem.startswith(("law_", "test")), path)
        for path, source in self.sources.items():
            self.assertTrue(all(" " <= sign <= "~" or sign == "\n" for sign in source), path)

    def test_l2_l16_imports(self):
        self.assertFalse([where for where, _ in self.nodes(ast.Import)])
        for where, node in self.nodes(ast.ImportFrom):
            self.assertEqual(node.level, 0, where)
            for name in node.names:
                self.assertIsNone(name.asname if node.module in LIBRARY else None, where)
                if node.module in LIBRARY:
                    self.assertIn(name.name, LIBRARY[node.module], where)
                else:
                    self.assertIn(name.name, self.defined(node.module), where)

    def defined(self, module):
        first, *rest = module.split(".")
        self.assertEqual(first, PACKAGE.name)
        tree = self.trees[PACKAGE.joinpath(*rest).with_suffix(".py")]
        found = [node.name for node in tree.body if isinstance(node, (ast.FunctionDef, ast.ClassDef))]
        return found + [node.targets[0].id for node in tree.body if isinstance(node, ast.Assign)]

    def test_l16_no_cycles(self):
        leads = {}
        for path, tree in self.trees.items():
            own = [node.module for node in tree.body if isinstance(node, ast.ImportFrom) and node.module not in LIBRARY]
            leads[f"{PACKAGE.name}.{path.stem}"] = own
        while leads:
            free = [module for module, others in leads.items() if not [other for other in others if other in leads]]
            self.assertTrue(free, leads)
            for module in free:
                del leads[module]

    def test_l3_module_level(self):
        for path, tree in self.trees.items():
            for node in tree.body:
                docstring = isinstance(node, ast.Expr) and isinstance(node.value, ast.Constant)
                self.assertTrue(
                    docstring or isinstance(node, (ast.ImportFrom, ast.FunctionDef, ast.ClassDef, ast.Assign)),
                    (path, node.lineno),
                )

    def test_l4_l5_functions_and_classes(self):
        for where, node in self.nodes(ast.FunctionDef):
            for decorator in node.decorator_list:
                word = ast.unparse(decorator).split(".")[-1]
                self.assertIn(word, ("property", "setter", "staticmethod", "classmethod"), where)
            if node.name.startswith("__"):
                self.assertIn(node.name, DUNDERS, where)
        for where, node in self.nodes(ast.ClassDef):
            self.assertFalse(node.decorator_list or node.keywords, where)

    def test_l6_statements(self):
        for where, node in self.nodes(ast.stmt):
            self.assertIsInstance(node, STATEMENTS, where)

    def test_l7_expressions(self):
        for where, node in self.nodes(ast.Constant):
            self.assertNotIsInstance(node.value, (float, complex), where)
        for where, node in self.nodes((ast.BinOp, ast.AugAssign)):
            self.assertNotIsInstance(node.op, (ast.Div, ast.MatMult), where)
        for where, node in self.nodes(ast.Call):
            if isinstance(node.func, ast.Name) and node.func.id in ("any", "all", "min", "max", "sum", "sorted"):
                self.assertFalse([each for each in node.args if isinstance(each, ast.GeneratorExp)], where)

    def test_l8_l15_builtins(self):
        for where, node in self.nodes(ast.Name):
            if isinstance(node.ctx, ast.Load) and node.id in BUILTIN_NAMES:
                self.assertIn(node.id, BUILTINS, where)
        for path, tree in self.trees.items():
            for name in names_bound(tree):
                self.assertNotIn(name, BUILTIN_NAMES, path)

    def test_l10_size(self):
        for path, source in self.sources.items():
            lines = source.split("\n")
            self.assertLessEqual(len(lines), 399, path)
            self.assertFalse([line for line in lines if len(line) > 120], path)
        for where, node in self.nodes(ast.FunctionDef):
            self.assertLessEqual(node.end_lineno - node.lineno + 1, 40, where)

    def test_l15_l17_names(self):
        for path, tree in self.trees.items():
            imported = [name.name for node in tree.body if isinstance(node, ast.ImportFrom) for name in node.names]
            classes = [node.name for node in tree.body if isinstance(node, ast.ClassDef)]
            bound = list(names_bound(tree))
            for name in [*imported, *classes]:
                self.assertLessEqual(bound.count(name) + imported.count(name), 1, (path, name))
            for name in bound:
                self.assertNotIn(name, BARRED_NAMES, path)
                self.assertTrue(name in DUNDERS or re.fullmatch(r"_?[A-Za-z][A-Za-z0-9_]*|_", name), (path, name))

    def test_l17_words(self):
        for path, tree in self.trees.items():
            for node in ast.walk(tree):
                if isinstance(node, (ast.FunctionDef, ast.ClassDef, ast.Module)) and ast.get_docstring(node):
                    node.body = node.body[1:] or [ast.Pass()]
            words = re.findall(r"\w+", ast.unparse(tree))
            self.assertFalse([word for word in words if word in BARRED_WORDS], path)

    def test_l18_attributes(self):
        """Each attribute that is read is a method, a property, or assigned somewhere."""
        assigned = {node.attr for _, node in self.nodes(ast.Attribute) if not isinstance(node.ctx, ast.Load)}
        for where, node in self.nodes(ast.Attribute):
            self.assertIn(node.attr, assigned | self.own | METHODS | DUNDERS, where)

    def test_l5_properties(self):
        """No attribute is assigned that has the name of a property."""
        properties = [node.name for _, node in self.nodes(ast.FunctionDef) if node.decorator_list]
        for where, node in self.nodes(ast.Attribute):
            if not isinstance(node.ctx, ast.Load):
                self.assertNotIn(node.attr, properties, where)

    def test_l23_loops(self):
        """What stands in the head of a loop is not changed in the loop by a method of builtin values or an item."""
        changing = ("append", "clear", "extend", "insert", "pop", "remove", "reverse", "setdefault", "update")
        for where, loop in self.nodes(ast.For):
            if ast.unparse(loop.iter).startswith(("list(", "reversed(list(", "sorted(")):
                continue
            head = [ast.unparse(node) for node in ast.walk(loop.iter) if isinstance(node, (ast.Name, ast.Attribute))]
            for node in [each for row in loop.body for each in ast.walk(row)]:
                if isinstance(node, ast.Attribute) and node.attr in changing:
                    self.assertNotIn(ast.unparse(node.value), head, where)
                if isinstance(node, ast.Subscript) and not isinstance(node.ctx, ast.Load):
                    self.assertNotIn(ast.unparse(node.value), head, where)

    def test_l19_errors(self):
        for where, node in self.nodes(ast.Raise):
            self.assertTrue(node.exc is None or isinstance(node.exc, ast.Call), where)
        for where, node in self.nodes(ast.ExceptHandler):
            self.assertIsNotNone(node.type, where)

    def test_l20_is(self):
        for where, node in self.nodes(ast.Compare):
            for operator, right in zip(node.ops, node.comparators):
                if isinstance(operator, (ast.Is, ast.IsNot)):
                    self.assertTrue(isinstance(right, ast.Constant) and right.value in (None, True, False), where)

    def test_l24_sets(self):
        self.assertFalse([where for where, _ in self.nodes(ast.SetComp)])

    def test_l25_methods(self):
        for where, node in self.nodes(ast.Call):
            if isinstance(node.func, ast.Attribute):
                self.assertIn(node.func.attr, METHODS | self.own | DUNDERS, where)
                self.assertFalse(node.keywords and node.func.attr not in self.own | DUNDERS, where)

    def test_l27_numbers_and_strings(self):
        for where, node in self.nodes(ast.Constant):
            if isinstance(node.value, str):
                self.assertNotRegex(node.value, r"^__.*__$", where)
        for path, source in self.sources.items():
            self.assertNotRegex(source, r"\\[^nt\\'\"]", path)

    def test_l28_init_returns_nothing(self):
        for where, node in self.nodes(ast.FunctionDef):
            if node.name == "__init__":
                self.assertFalse([each for each in ast.walk(node) if isinstance(each, ast.Return)], where)
