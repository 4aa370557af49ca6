"""The rules for the files of the package, as far as a short look at the code can tell."""

import ast
import builtins
import os
import re
import unittest

ROOT = os.path.dirname(os.path.dirname(os.path.abspath(__file__)))
PACKAGE = os.path.join(ROOT, "curtainsteps")

LIBRARY = {
    "heapq": {"heappush", "heappop", "heapify", "heapreplace", "heappushpop"},
    "math": {"gcd", "lcm", "isqrt", "comb", "perm", "factorial"},
    "itertools": {"product", "combinations", "permutations"},
}
BUILTINS = set(
    "len range enumerate zip min max sum abs sorted reversed int str bool bytes list tuple dict set frozenset "
    "isinstance ord repr any all divmod iter next map property staticmethod classmethod super Exception ValueError "
    "TypeError KeyError IndexError LookupError ZeroDivisionError ArithmeticError OverflowError RuntimeError "
    "NotImplementedError AttributeError StopIteration NotImplemented".split()
)
METHODS = set(
    "append clear copy count endswith extend find get index insert isalnum isalpha isdigit islower isspace isupper "
    "items join keys ljust lower lstrip partition pop remove replace reverse rfind rjust rpartition rsplit rstrip "
    "setdefault split splitlines startswith strip update upper values zfill bit_length add discard".split()
)
BARRED_NAMES = set(
    "register mro elements open input law version_info with_traceback add_note attrgetter breakpoint builtins compile "
    "copyright credits delattr dir eval exec exit gc getattr globals hasattr help id importlib license locals "
    "methodcaller os quit setattr type vars sys".split()
)
BARRED_WORDS = re.compile(
    r"\b(type|typing|typing_extensions|enum|Enum|IntEnum|StrEnum|Flag|IntFlag|Generic|Protocol|ABC|ABCMeta|namedtuple|"
    r"NamedTuple|TypedDict|TYPE_CHECKING|abstractmethod)\b|dataclass|overload|contextmanager|_wall|_WallAttr"
)
DOUBLE = ("__init__", "__enter__", "__exit__", "__len__", "__eq__", "__contains__")
BARRED_NODES = (
    ast.Global, ast.AsyncFunctionDef, ast.AsyncFor, ast.AsyncWith, ast.Await, ast.Import, ast.AnnAssign, ast.Div,
    ast.MatMult,
)


def sources():
    found = {}
    for folder, _, names in os.walk(PACKAGE):
        for name in sorted(names):
            if "__pycache__" not in folder:
                path = os.path.join(folder, name)
                with open(path, encoding="utf-8", newline="") as file:
                    found[os.path.relpath(path, ROOT)] = file.read()
    return found


SOURCES = sources()
TREES = {path: ast.parse(text) for path, text in SOURCES.items()}


def module(path):
    return path[:-3].replace(os.sep, ".")


def docstrings(tree):
    wanted = (ast.Module, ast.ClassDef, ast.FunctionDef)
    return [
        node.body[0].value for node in ast.walk(tree)
        if isinstance(node, wanted) and node.body and isinstance(node.body[0], ast.Expr)
        and isinstance(node.body[0].value, ast.Constant)
    ]


def top_names(tree):
    names = []
    for node in tree.body:
        if isinstance(node, (ast.FunctionDef, ast.ClassDef)):
            names.append(node.name)
        elif isinstance(node, ast.ImportFrom):
            names += [alias.name for alias in node.names]
        elif isinstance(node, ast.Assign):
            names += [target.id for target in node.targets]
    return names


def defined(tree):
    return {node.name for node in tree.body if isinstance(node, (ast.FunctionDef, ast.ClassDef))} | {
        target.id for node in tree.body if isinstance(node, ast.Assign) for target in node.targets
    }


class Files(unittest.TestCase):
    def test_names_and_characters(self):
        for path, text in SOURCES.items():
            self.assertRegex(os.path.basename(path), r"^[a-z_][a-z0-9_]*\.py$")
            self.assertEqual([c for c in text if c != "\n" and not " " <= c <= "~"], [], path)

    def test_sizes(self):
        for path, text in SOURCES.items():
            lines = text.split("\n")
            self.assertLessEqual(len(lines), 399, path)
            self.assertLessEqual(max(map(len, lines)), 120, path)
            for node in ast.walk(TREES[path]):
                if isinstance(node, ast.FunctionDef):
                    self.assertLessEqual(node.end_lineno - node.lineno + 1, 40, (path, node.name))

    def test_barred_words(self):
        for path, tree in TREES.items():
            prose = {id(node) for node in docstrings(tree)}
            for node in ast.walk(tree):
                words = [getattr(node, part) for part in ("id", "name", "arg", "attr") if hasattr(node, part)]
                if isinstance(node, ast.Constant) and isinstance(node.value, str):
                    self.assertNotIn("%", node.value, path)
                    words = [] if id(node) in prose else [node.value]
                for word in words:
                    self.assertIsNone(BARRED_WORDS.search(word or ""), (path, word))


class Imports(unittest.TestCase):
    def test_what_is_imported(self):
        for path, tree in TREES.items():
            for node in ast.walk(tree):
                if not isinstance(node, ast.ImportFrom):
                    continue
                self.assertIn(node, tree.body, path)
                self.assertEqual(node.level, 0, path)
                self.assertEqual([alias for alias in node.names if alias.asname], [], path)
                names = {alias.name for alias in node.names}
                if node.module in LIBRARY:
                    self.assertLessEqual(names, LIBRARY[node.module], path)
                else:
                    source = node.module.replace(".", os.sep) + ".py"
                    self.assertLessEqual(names, defined(TREES[source]), path)

    def test_no_circles_and_nothing_unused(self):
        needs = {}
        for path, tree in TREES.items():
            froms = [node for node in tree.body if isinstance(node, ast.ImportFrom)]
            needs[module(path)] = {node.module for node in froms if node.module not in LIBRARY}
            used = {node.id for node in ast.walk(tree) if isinstance(node, ast.Name)}
            self.assertEqual([a.name for node in froms for a in node.names if a.name not in used], [], path)
        while needs:
            free = [name for name in needs if not needs[name] & set(needs)]
            self.assertTrue(free, needs)
            for name in free:
                del needs[name]


class Code(unittest.TestCase):
    def test_module_level(self):
        for path, tree in TREES.items():
            for at, node in enumerate(tree.body):
                prose = isinstance(node, ast.Expr) and at == 0
                wanted = (ast.ImportFrom, ast.FunctionDef, ast.ClassDef, ast.Assign)
                self.assertTrue(prose or isinstance(node, wanted), (path, node.lineno))
            names = top_names(tree)
            self.assertEqual(len(names), len(set(names)), path)
            self.assertFalse(set(names) & (set(vars(builtins)) | BARRED_NAMES), path)

    def test_barred_statements(self):
        for path, tree in TREES.items():
            for node in ast.walk(tree):
                self.assertNotIsInstance(node, BARRED_NODES, (path, getattr(node, "lineno", 0)))
                if isinstance(node, ast.Constant):
                    self.assertNotIsInstance(node.value, (float, complex), path)
                if isinstance(node, ast.BinOp) and isinstance(node.op, ast.Pow):
                    self.assertIsInstance(node.right, ast.Constant, path)
                if isinstance(node, (ast.Yield, ast.YieldFrom, ast.GeneratorExp)):
                    self.fail((path, node.lineno))

    def test_names(self):
        for path, tree in TREES.items():
            top = set(top_names(tree))
            bound = {n.id for n in ast.walk(tree) if isinstance(n, ast.Name) and isinstance(n.ctx, ast.Store)}
            bound |= {n.arg for n in ast.walk(tree) if isinstance(n, ast.arg)}
            inner = bound - defined(tree)
            self.assertFalse(bound & (set(vars(builtins)) | BARRED_NAMES), path)
            self.assertFalse(inner & top, path)
            read = {n.id for n in ast.walk(tree) if isinstance(n, ast.Name)} - bound - top
            self.assertLessEqual(read, BUILTINS, path)
            for name in bound | top:
                self.assertRegex(name, r"^(_?[A-Za-z][A-Za-z0-9_]*|_)$", path)

    def test_no_local_name_is_that_of_a_function_of_its_file(self):
        for path, tree in TREES.items():
            functions = {node.name for node in tree.body if isinstance(node, (ast.FunctionDef, ast.ClassDef))}
            for function in [node for node in tree.body if isinstance(node, ast.FunctionDef)]:
                stored = {n.id for n in ast.walk(function) if isinstance(n, ast.Name) and isinstance(n.ctx, ast.Store)}
                stored |= {n.arg for n in ast.walk(function) if isinstance(n, ast.arg)}
                self.assertFalse(stored & functions, (path, function.name))

    def test_calls(self):
        own = {n.name for tree in TREES.values() for n in ast.walk(tree) if isinstance(n, ast.FunctionDef)}
        for path, tree in TREES.items():
            for node in ast.walk(tree):
                if isinstance(node, ast.Call) and isinstance(node.func, ast.Attribute):
                    self.assertIn(node.func.attr, METHODS | own, (path, node.lineno))
                if isinstance(node, ast.Attribute) and node.attr.startswith("__"):
                    self.assertIn(node.attr, ("__class__", "__name__"), (path, node.lineno))


class Classes(unittest.TestCase):
    def test_names(self):
        methods, attributes, properties = {}, {}, {}
        for tree in TREES.values():
            for made in [node for node in tree.body if isinstance(node, ast.ClassDef)]:
                functions = [node for node in made.body if isinstance(node, ast.FunctionDef)]
                called = {n.name for n in functions}
                self.assertEqual(len(called), len(functions), made.name)
                methods[made.name] = {n.name for n in functions if not n.decorator_list}
                properties[made.name] = called - methods[made.name]
                attributes[made.name] = {
                    n.attr for n in ast.walk(made) if isinstance(n, ast.Attribute) and isinstance(n.ctx, ast.Store)
                }
        stored = set().union(*attributes.values())
        told = set().union(*properties.values())
        self.assertFalse(stored & (told | set().union(*methods.values()) | METHODS))
        self.assertFalse(told & (set().union(*methods.values()) | METHODS))
        self.assertFalse({"args"} & (stored | told))
        read = {n.attr for t in TREES.values() for n in ast.walk(t) if isinstance(n, ast.Attribute)}
        self.assertLessEqual(read - stored - told - METHODS - {"__class__", "__name__"}, set().union(*methods.values()))

    def test_decorators_and_two_underscores(self):
        for path, tree in TREES.items():
            for node in ast.walk(tree):
                if isinstance(node, ast.FunctionDef):
                    self.assertIn([ast.unparse(n) for n in node.decorator_list], ([], ["property"]), (path, node.name))
                    if node.name.startswith("__"):
                        self.assertIn(node.name, DOUBLE, path)
                if isinstance(node, ast.ClassDef):
                    self.assertEqual(node.decorator_list, [], path)
                    self.assertLessEqual(len(node.bases), 1, path)

    def test_what_a_with_statement_ends_with(self):
        for path, tree in TREES.items():
            for node in ast.walk(tree):
                if isinstance(node, ast.FunctionDef) and node.name == "__exit__":
                    self.assertEqual([n.arg for n in node.args.args], ["self", "kind", "value", "trace"], path)
                    for row in node.body:
                        self.assertIsInstance(row, ast.Assign, path)
                        self.assertIsInstance(row.value, ast.Attribute, path)

    def test_what_is_caught(self):
        own = {n.name for n in TREES[os.path.join("curtainsteps", "errors.py")].body if isinstance(n, ast.ClassDef)}
        for path, tree in TREES.items():
            for node in ast.walk(tree):
                if isinstance(node, ast.ExceptHandler):
                    names = node.type.elts if isinstance(node.type, ast.Tuple) else [node.type]
                    self.assertLessEqual({n.id for n in names}, own | {"KeyError", "ZeroDivisionError"}, path)

    def test_what_is_raised(self):
        for path, tree in TREES.items():
            for node in ast.walk(tree):
                if isinstance(node, ast.Raise):
                    self.assertIsInstance(node.exc, ast.Call, path)
                    self.assertIsInstance(node.exc.func, ast.Name, path)


if __name__ == "__main__":
    unittest.main()
