"""Those rules of LANGUAGE.md that a program can check, over all files of the package."""

import ast
import builtins
import pathlib
import re
import unittest
import warnings

FOLDER = pathlib.Path(__file__).resolve().parent.parent / "classtable"
FILES = {path.stem: path.read_bytes() for path in sorted(FOLDER.glob("*.py"))}
TREES = {name: ast.parse(data) for name, data in FILES.items()}

LIBRARY = {"math": {"gcd", "lcm", "isqrt", "comb", "perm", "factorial"}}
BUILTINS = set(
    "len range enumerate zip min max sum abs sorted reversed int str bool list tuple dict set isinstance ord repr any all "
    "divmod iter ValueError NotImplemented".split())
METHODS = set(
    "append clear copy count endswith extend find get index insert isalnum isalpha isdigit islower isspace isupper items "
    "join keys ljust lower lstrip partition pop remove replace reverse rfind rjust rpartition rsplit rstrip setdefault split "
    "splitlines startswith strip update upper values zfill bit_length removeprefix removesuffix isascii add discard".split())
DOUBLE = set(
    "__init__ __eq__ __repr__ __str__ __len__ __call__ __iter__ __add__ __sub__ __mul__ __neg__".split())
BARRED = set("register mro elements open input law version_info with_traceback add_note".split())
BARRED_NAMES = set(dir(builtins)) | set(
    "attrgetter builtins copyright credits exit gc help importlib license methodcaller os quit sys".split())
BARRED_WORDS = re.compile(
    r"\b(type|typing|typing_extensions|enum|Enum|IntEnum|StrEnum|Flag|IntFlag|Generic|Protocol|ABC|ABCMeta|namedtuple|"
    r"NamedTuple|TypedDict|TYPE_CHECKING|abstractmethod)\b|dataclass|overload|contextmanager")
STATEMENTS = (
    ast.FunctionDef, ast.ClassDef, ast.Return, ast.Assign, ast.AugAssign, ast.For, ast.While, ast.If, ast.Raise, ast.Try,
    ast.ImportFrom, ast.Expr, ast.Pass, ast.Break, ast.Continue, ast.Delete, ast.Assert)
NOT_USED = (
    ast.GeneratorExp, ast.Yield, ast.YieldFrom, ast.Await, ast.NamedExpr, ast.Global, ast.Nonlocal, ast.Div, ast.MatMult)


def functions(tree):
    return [node for node in ast.walk(tree) if isinstance(node, ast.FunctionDef)]


def docstrings(tree):
    found = set()
    for node in ast.walk(tree):
        if isinstance(node, (ast.Module, ast.ClassDef, ast.FunctionDef)) and ast.get_docstring(node) is not None:
            found.add(id(node.body[0].value))
    return found


def bound(tree):
    """All names that a file binds, with its parameters and attributes left apart."""
    names = [node.id for node in ast.walk(tree) if isinstance(node, ast.Name) and isinstance(node.ctx, ast.Store)]
    names += [node.arg for node in ast.walk(tree) if isinstance(node, ast.arg)]
    names += [node.name for node in ast.walk(tree) if isinstance(node, (ast.FunctionDef, ast.ClassDef))]
    names += [alias.asname or alias.name for node in ast.walk(tree) if isinstance(node, ast.ImportFrom) for alias in node.names]
    names += [node.name for node in ast.walk(tree) if isinstance(node, ast.ExceptHandler) and node.name]
    return names


def imports(tree):
    return [(node.module, alias.name) for node in tree.body if isinstance(node, ast.ImportFrom) for alias in node.names]


def own_members():
    """The names of all methods, and of all attributes that a method assigns to its object."""
    found = set()
    for tree in TREES.values():
        for node in ast.walk(tree):
            if isinstance(node, ast.ClassDef):
                found |= {item.name for item in node.body if isinstance(item, ast.FunctionDef)}
            if isinstance(node, ast.Attribute) and isinstance(node.ctx, ast.Store):
                found.add(node.attr)
    return found


class Language(unittest.TestCase):
    def test_files(self):
        self.assertGreater(len(FILES), 5)
        others = [path.name for path in FOLDER.iterdir() if path.suffix != ".py" and path.name != "__pycache__"]
        self.assertEqual(others, [])
        for name, data in FILES.items():
            self.assertRegex(name, r"\A[a-z_][a-z0-9_]*\Z")
            self.assertTrue(all(c == 10 or 32 <= c <= 126 for c in data), name)
        self.assertEqual(FILES["__init__"].strip(), b"")

    def test_sizes(self):
        for name, data in FILES.items():
            lines = data.decode().split("\n")
            self.assertLessEqual(len(lines), 399, name)
            self.assertLessEqual(max(len(line) for line in lines), 120, name)
            self.assertEqual([line for line in lines if line != line.rstrip()], [], name)
            for node in functions(TREES[name]):
                self.assertLessEqual(node.end_lineno - node.lineno + 1, 40, (name, node.name))

    def test_no_warnings(self):
        with warnings.catch_warnings():
            warnings.simplefilter("error")
            for name, data in FILES.items():
                compile(data, name, "exec")

    def test_imports(self):
        for name, tree in TREES.items():
            self.assertFalse([node for node in ast.walk(tree) if isinstance(node, ast.Import)], name)
            for node in ast.walk(tree):
                if isinstance(node, ast.ImportFrom):
                    self.assertIn(node, tree.body)
                    self.assertEqual(node.level, 0)
                    self.assertTrue(all(alias.asname is None for alias in node.names))
            for source, word in imports(tree):
                if source in LIBRARY:
                    self.assertIn(word, LIBRARY[source])
                else:
                    package, _, file = source.partition(".")
                    self.assertEqual(package, "classtable")
                    body = TREES[file].body
                    defined = [node.name for node in body if isinstance(node, (ast.FunctionDef, ast.ClassDef))]
                    defined += [target.id for node in body if isinstance(node, ast.Assign) for target in node.targets]
                    self.assertIn(word, defined, name)
                    used = [node.id for node in ast.walk(tree) if isinstance(node, ast.Name)]
                    self.assertIn(word, used, name)

    def test_no_circles_of_imports(self):
        left = {name: {source.partition(".")[2] for source, _ in imports(tree) if source not in LIBRARY}
                for name, tree in TREES.items()}
        while left:
            free = [name for name, needed in left.items() if not needed & set(left)]
            self.assertTrue(free, left)
            for name in free:
                del left[name]

    def test_module_level(self):
        for name, tree in TREES.items():
            words = [node.name for node in tree.body if isinstance(node, (ast.FunctionDef, ast.ClassDef))]
            words += [word for _, word in imports(tree)]
            for node in tree.body:
                if isinstance(node, ast.Assign):
                    self.assertEqual(len(node.targets), 1)
                    words.append(node.targets[0].id)
                    self.assertFalse([part for part in ast.walk(node.value) if isinstance(part, (ast.Call, ast.Name))])
                else:
                    self.assertIsInstance(node, (ast.FunctionDef, ast.ClassDef, ast.ImportFrom, ast.Expr))
            self.assertEqual(len(words), len(set(words)), name)

    def test_statements(self):
        for name, tree in TREES.items():
            for node in ast.walk(tree):
                self.assertNotIsInstance(node, NOT_USED, name)
                if isinstance(node, ast.stmt):
                    self.assertIsInstance(node, STATEMENTS, name)
                if isinstance(node, (ast.FunctionDef, ast.ClassDef)):
                    self.assertEqual(node.decorator_list, [])
                if isinstance(node, ast.Constant):
                    self.assertNotIsInstance(node.value, (float, complex, bytes))
                if isinstance(node, ast.BinOp) and isinstance(node.op, ast.Pow):
                    self.assertIsInstance(node.right, ast.Constant, name)
                    self.assertTrue(0 <= node.right.value <= 64)
                if isinstance(node, ast.AugAssign):
                    # Nothing but a counter is raised in place, so that each function may stand behind an operator.
                    self.assertIsInstance(node.target, ast.Name, name)
                    self.assertIsInstance(node.op, ast.Add, name)
                    self.assertIsInstance(node.value, ast.Constant, name)
                if isinstance(node, ast.Compare) and isinstance(node.ops[0], (ast.Is, ast.IsNot)):
                    self.assertIsInstance(node.comparators[0], ast.Constant, name)

    def test_names(self):
        for name, tree in TREES.items():
            barred_here = {word for _, word in imports(tree)}
            barred_here |= {node.name for node in tree.body if isinstance(node, ast.ClassDef)}
            methods = [item.name for node in tree.body if isinstance(node, ast.ClassDef) for item in node.body
                       if isinstance(item, ast.FunctionDef)]
            locals_here = [node.id for node in ast.walk(tree) if isinstance(node, ast.Name) and isinstance(node.ctx, ast.Store)]
            locals_here += [node.arg for node in ast.walk(tree) if isinstance(node, ast.arg)]
            self.assertEqual(barred_here & set(locals_here), set(), name)
            for word in bound(tree):
                self.assertNotIn(word, BARRED)
                if word.startswith("__"):
                    self.assertIn(word, DOUBLE)
                elif word not in methods:
                    self.assertNotIn(word, BUILTINS | BARRED_NAMES, name)
                if word.startswith("_") and word != "_" and not word.startswith("__"):
                    self.assertRegex(word, r"\A_[A-Za-z][A-Za-z0-9_]*\Z")
            used = {node.id for node in ast.walk(tree) if isinstance(node, ast.Name) and isinstance(node.ctx, ast.Load)}
            self.assertEqual(used - set(bound(tree)) - BUILTINS, set(), name)
            self.assertNotIn("_", used, name)

    def test_attributes(self):
        own = own_members()
        for name, tree in TREES.items():
            for node in ast.walk(tree):
                if isinstance(node, ast.Attribute):
                    self.assertNotIn(node.attr, BARRED)
                    self.assertFalse(node.attr.startswith("__"), name)
                    self.assertIn(node.attr, own | METHODS, name)

    def test_methods_and_attributes_have_different_names(self):
        methods, attributes = set(), set()
        for tree in TREES.values():
            for node in ast.walk(tree):
                if isinstance(node, ast.ClassDef):
                    methods |= {item.name for item in node.body if isinstance(item, ast.FunctionDef)}
                if isinstance(node, ast.Attribute) and isinstance(node.ctx, ast.Store):
                    attributes.add(node.attr)
        self.assertEqual(methods & attributes, set())

    def test_strings(self):
        for name, tree in TREES.items():
            free = docstrings(tree)
            for node in ast.walk(tree):
                if isinstance(node, ast.Constant) and isinstance(node.value, str) and id(node) not in free:
                    self.assertNotIn("%", node.value, name)
                    self.assertIsNone(BARRED_WORDS.search(node.value), name)

    def test_words(self):
        for name, data in FILES.items():
            tree = TREES[name]
            words = bound(tree) + [node.id for node in ast.walk(tree) if isinstance(node, ast.Name)]
            words += [node.attr for node in ast.walk(tree) if isinstance(node, ast.Attribute)]
            for word in words:
                self.assertIsNone(BARRED_WORDS.search(word), name)
            self.assertNotIn(b"_wall", data)

    def test_handlers(self):
        for name, tree in TREES.items():
            for node in ast.walk(tree):
                if isinstance(node, ast.ExceptHandler):
                    self.assertIn(ast.unparse(node.type), ("KeyError", "ZeroDivisor", "Malformed", "Refused", "NoText"))
                if isinstance(node, ast.Raise):
                    self.assertIsInstance(node.exc, ast.Call, name)

    def test_stored_sets(self):
        """A set has one name, is assigned once, and is only added to, asked with `in`, measured and sorted."""
        for name, tree in TREES.items():
            for function in functions(tree):
                stored = [node for node in ast.walk(function) if isinstance(node, ast.Assign) and is_set(node.value)]
                words = [node.targets[0].id for node in stored]
                self.assertEqual(len(words), len(set(words)), name)
                for word in words:
                    self.assertEqual(set_uses(function, word), [], (name, function.name, word))

    def test_sets_on_the_spot(self):
        """Every other set is written within sorted(..), len(..) or behind `in`."""
        for name, tree in TREES.items():
            placed = set()
            for node in ast.walk(tree):
                if isinstance(node, ast.Call) and isinstance(node.func, ast.Name) and node.func.id in ("sorted", "len"):
                    placed |= {id(argument) for argument in node.args}
                if isinstance(node, ast.Assign):
                    placed.add(id(node.value))
                if isinstance(node, ast.Compare) and isinstance(node.ops[0], (ast.In, ast.NotIn)):
                    placed.add(id(node.comparators[0]))
            for node in ast.walk(tree):
                if is_set(node):
                    self.assertIn(id(node), placed, name)

    def test_double_underscore_methods(self):
        for name, tree in TREES.items():
            for node in functions(tree):
                if node.name in ("__eq__", "__len__", "__str__", "__repr__"):
                    self.assertEqual([type(row) for row in node.body], [ast.Return], (name, node.name))
                if node.name == "__init__":
                    self.assertFalse([row for row in ast.walk(node) if isinstance(row, ast.Return)])


def is_set(node):
    if isinstance(node, (ast.Set, ast.SetComp)):
        return True
    return isinstance(node, ast.Call) and isinstance(node.func, ast.Name) and node.func.id == "set"


def set_uses(function, word):
    """The lines on which a stored set is used otherwise than it may."""
    allowed = set()
    for node in ast.walk(function):
        if isinstance(node, ast.Compare) and isinstance(node.ops[0], (ast.In, ast.NotIn)):
            allowed.add(id(node.comparators[0]))
        if isinstance(node, ast.Call) and isinstance(node.func, ast.Attribute) and node.func.attr in ("add", "discard"):
            allowed.add(id(node.func.value))
        if isinstance(node, ast.Call) and isinstance(node.func, ast.Name) and node.func.id in ("len", "sorted"):
            allowed |= {id(argument) for argument in node.args}
        if isinstance(node, ast.Assign):
            allowed |= {id(target) for target in node.targets}
    return [node.lineno for node in ast.walk(function)
            if isinstance(node, ast.Name) and node.id == word and id(node) not in allowed]


if __name__ == "__main__":
    unittest.main()
