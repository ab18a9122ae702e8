"""The rules for the files of the package that a test can see.

It lets less than the rules do: what the package has not needed so far is told as a fault. Whoever needs more
of the language looks up its rule and adds it here.
"""

import ast
import builtins
import pathlib
import re
import unittest

PACKAGE = pathlib.Path(__file__).resolve().parent.parent / "exactkinds"
FILES = sorted(PACKAGE.rglob("*.py"))

BUILTINS = set("""
    len range enumerate zip min max sum abs sorted reversed int str bool list tuple dict set isinstance ord repr
    any all divmod ValueError KeyError
""".split())
METHODS = set("""
    append clear copy count endswith extend find get index insert isalnum isalpha isdigit islower isspace isupper
    items join keys ljust lower lstrip partition pop remove replace reverse rfind rjust rpartition rsplit rstrip
    setdefault split splitlines startswith strip update upper values zfill bit_length isascii add
""".split())
NODES = set("""
    Module Import ImportFrom alias FunctionDef arguments arg ClassDef Return Assign AugAssign For While If Raise
    Expr Pass Break Continue Assert Delete BoolOp And Or BinOp Add Sub Mult FloorDiv Mod UnaryOp Not USub Compare
    Eq NotEq Lt LtE Gt GtE Is IsNot In NotIn Call keyword IfExp Attribute Subscript Slice Starred Name Load Store
    Del List Tuple Dict Set ListComp SetComp DictComp GeneratorExp comprehension Constant JoinedStr FormattedValue
    Lambda Try ExceptHandler BitAnd BitOr BitXor LShift
""".split())
UNUSED_NAMES = {"mro", "elements", "open", "input", "law", "version_info", "with_traceback", "add_note", "register",
                "compile", "exec", "eval", "globals", "locals", "vars", "dir", "help", "id", "exit", "quit", "os",
                "sys", "gc", "license", "credits", "copyright", "super", "getattr", "setattr", "hasattr", "delattr"}
UNUSED_WORDS = """
    type typing typing_extensions enum Enum IntEnum StrEnum Flag IntFlag Generic Protocol ABC ABCMeta namedtuple
    NamedTuple TypedDict TYPE_CHECKING abstractmethod
""".split()
BUILTIN_VALUES = ("", 0, [], {}, set(), b"", (), 0.0)


def tree_of(path):
    return ast.parse(path.read_text())


def nodes_of(tree, *kinds):
    return [node for node in ast.walk(tree) if isinstance(node, kinds)]


def docstrings_of(tree):
    found = []
    for node in nodes_of(tree, ast.Module, ast.ClassDef, ast.FunctionDef):
        first = node.body[0] if node.body else None
        if isinstance(first, ast.Expr) and isinstance(first.value, ast.Constant):
            found.append(first.value)
    return found


def bound_names(tree):
    """All names that a file binds, but those of attributes."""
    names = [node.id for node in nodes_of(tree, ast.Name) if not isinstance(node.ctx, ast.Load)]
    names += [node.arg for node in nodes_of(tree, ast.arg)]
    names += [node.name for node in nodes_of(tree, ast.FunctionDef, ast.ClassDef)]
    names += [node.name for node in nodes_of(tree, ast.alias)]
    return names + [node.name for node in nodes_of(tree, ast.ExceptHandler) if node.name]


def top_names(tree):
    names = []
    for node in tree.body:
        if isinstance(node, (ast.FunctionDef, ast.ClassDef)):
            names.append(node.name)
        elif isinstance(node, ast.ImportFrom):
            names.extend(one.name for one in node.names)
        elif isinstance(node, ast.Assign):
            names.append(node.targets[0].id)
    return names


class Language(unittest.TestCase):

    def each_file(self):
        return [(path, tree_of(path)) for path in FILES]

    def test_files(self):
        self.assertGreater(len(FILES), 5)
        others = [path for path in PACKAGE.rglob("*")
                  if path.is_file() and path.suffix not in (".py", ".pyc")]
        self.assertEqual(others, [])
        for path in FILES:
            self.assertRegex(path.name, r"^(__init__|[a-z][a-z0-9_]*)\.py$")
            self.assertNotIn(path.stem, dir(builtins))

    def test_sizes_and_signs(self):
        for path, tree in self.each_file():
            text = path.read_text()
            self.assertRegex(text, r"\A[ -~\n]*\Z")
            self.assertTrue(text.endswith("\n"))
            rows = text.split("\n")[:-1]
            self.assertLessEqual(len(rows), 399)
            self.assertLessEqual(max(map(len, rows)), 120)
            for node in nodes_of(tree, ast.FunctionDef):
                self.assertLessEqual(node.end_lineno - node.lineno + 1, 40, node.name)

    def test_imports(self):
        below = {}
        for path, tree in self.each_file():
            self.assertEqual(nodes_of(tree, ast.Import), [])
            below[path.stem] = []
            for node in nodes_of(tree, ast.ImportFrom):
                self.assertIn(node, tree.body)
                self.assertEqual(node.level, 0)
                package, _, file = node.module.partition(".")
                self.assertEqual(package, "exactkinds")
                below[path.stem].append(file)
                defined = tree_of(PACKAGE / f"{file}.py")
                imported = [one.name for row in nodes_of(defined, ast.ImportFrom) for one in row.names]
                for one in node.names:
                    self.assertIsNone(one.asname)
                    self.assertIn(one.name, top_names(defined))
                    self.assertNotIn(one.name, imported)
        while below:
            free = [file for file in below if not set(below[file]) & set(below)]
            self.assertTrue(free, f"these import one another: {sorted(below)}")
            for file in free:
                del below[file]

    def test_imports_are_used(self):
        for _, tree in self.each_file():
            used = {node.id for node in nodes_of(tree, ast.Name)}
            for node in nodes_of(tree, ast.alias):
                self.assertIn(node.name, used)

    def test_module_level(self):
        for path, tree in self.each_file():
            self.assertTrue(ast.get_docstring(tree))
            for node in tree.body[1:]:
                self.assertIsInstance(node, (ast.ImportFrom, ast.FunctionDef, ast.ClassDef, ast.Assign))
                if isinstance(node, ast.Assign):
                    self.assertEqual(len(node.targets), 1)
                    ast.literal_eval(node.value)
            names = top_names(tree)
            self.assertEqual(sorted(names), sorted(set(names)))
            if path.name == "__init__.py":
                self.assertEqual(names, [])

    def test_nodes(self):
        for _, tree in self.each_file():
            for node in ast.walk(tree):
                self.assertIn(type(node).__name__, NODES, getattr(node, "lineno", None))
                self.assertFalse(getattr(node, "decorator_list", []), "a decorator")
                if isinstance(node, ast.Constant):
                    self.assertNotIsInstance(node.value, (float, complex, bytes), node.lineno)
                if isinstance(node, ast.FormattedValue):
                    self.assertIsNone(node.format_spec)
                    for inner in nodes_of(node.value, ast.Constant, ast.JoinedStr):
                        self.assertIsInstance(getattr(inner, "value", None), int)
                if isinstance(node, ast.Compare) and isinstance(node.ops[0], (ast.Is, ast.IsNot)):
                    self.assertIn(ast.unparse(node.comparators[0]), ("None", "True", "False"))

    def test_names(self):
        for _, tree in self.each_file():
            classes = [node.name for node in nodes_of(tree, ast.ClassDef)]
            imports = [node.name for node in nodes_of(tree, ast.alias)]
            names = bound_names(tree)
            for name in names:
                self.assertNotIn(name, dir(builtins))
                self.assertNotIn(name, UNUSED_NAMES)
                self.assertRegex(name, r"^(_|_?[A-Za-z][A-Za-z0-9_]*|__init__)$")
            for name in classes + imports:
                self.assertEqual(names.count(name), 1, name)
            for node in nodes_of(tree, ast.Name):
                if isinstance(node.ctx, ast.Load):
                    self.assertNotEqual(node.id, "_")
                    if node.id in dir(builtins):
                        self.assertIn(node.id, BUILTINS, node.lineno)

    def test_attributes(self):
        own = {node.name for path in FILES for node in nodes_of(tree_of(path), ast.FunctionDef)}
        stored = {node.attr for path in FILES for node in nodes_of(tree_of(path), ast.Attribute)
                  if isinstance(node.ctx, ast.Store)}
        for name in stored:
            for value in BUILTIN_VALUES:
                self.assertFalse(hasattr(value, name), name)
        for _, tree in self.each_file():
            for node in nodes_of(tree, ast.Call):
                if isinstance(node.func, ast.Attribute):
                    self.assertIn(node.func.attr, METHODS | own, node.lineno)
            for node in nodes_of(tree, ast.Attribute):
                if node.attr == "__init__":
                    # That of a base class, in an __init__ with its own self first.
                    rows = [ast.unparse(one) for one in nodes_of(tree, ast.Call) if one.func is node]
                    self.assertRegex(rows[0], r"^[A-Z][A-Za-z]*\.__init__\(self\b")
                    continue
                self.assertNotIn(node.attr, UNUSED_NAMES)
                self.assertNotRegex(node.attr, "^__")
                self.assertIn(node.attr, METHODS | own | stored, node.lineno)
            for node in nodes_of(tree, ast.ClassDef):
                for method in nodes_of(node, ast.FunctionDef):
                    for value in BUILTIN_VALUES:
                        self.assertTrue(method.name == "__init__" or not hasattr(value, method.name), method.name)

    def test_no_name_is_a_method_and_an_attribute(self):
        methods, stored = set(), set()
        for _, tree in self.each_file():
            for node in nodes_of(tree, ast.ClassDef):
                methods.update(one.name for one in node.body if isinstance(one, ast.FunctionDef))
            stored.update(one.attr for one in nodes_of(tree, ast.Attribute) if isinstance(one.ctx, ast.Store))
        self.assertEqual(methods & stored, set())

    def test_views_and_sets_are_taken_at_once(self):
        for _, tree in self.each_file():
            for node in nodes_of(tree, ast.Call):
                if isinstance(node.func, ast.Attribute) and node.func.attr in ("extend", "update"):
                    for given in nodes_of(node.args[0], ast.Call)[:1]:
                        name = given.func.id if isinstance(given.func, ast.Name) else given.func.attr
                        self.assertNotIn(name, ("zip", "enumerate", "reversed", "range", "items", "keys", "values"))

    def test_strings(self):
        for path, tree in self.each_file():
            told = docstrings_of(tree)
            for node in nodes_of(tree, ast.Constant):
                if isinstance(node.value, str) and node not in told:
                    self.assertNotIn("%", node.value)
                    self.assertNotRegex(node.value, r"(^__.*__$)|\._$")
                    self.assertRegex(node.value, r"\A[ -~\n\t]*\Z")
            code = ast.unparse(tree)
            for word in UNUSED_WORDS:
                self.assertIsNone(re.search(rf"\b{word}\b", self.without_docstrings(tree)), word)
            for word in ("dataclass", "overload", "contextmanager", "_wall", "_WallAttr"):
                self.assertNotIn(word, code)

    def without_docstrings(self, tree):
        for node in docstrings_of(tree):
            node.value = ""
        return ast.unparse(tree)


if __name__ == "__main__":
    unittest.main()
