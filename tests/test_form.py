"""What can be seen of the form of the package: files, sizes, characters, imports, names, and where things stand."""
import ast
import builtins
import pathlib
import re
import string
import unittest

PACKAGE = pathlib.Path(__file__).resolve().parent.parent / "needrows"
# Doctest puts a name `_` among the builtins.
KNOWN = set(dir(builtins)) - {"_"}
FILES = sorted(PACKAGE.rglob("*.py"))
SIGNS = set(string.printable) - set("\t\r\x0b\x0c")
LIBRARY = {"heapq", "math", "itertools", "collections", "__future__"}
BUILTINS = set(
    "len range enumerate zip min max sum abs sorted reversed int str bool list tuple dict set isinstance ord repr any "
    "all divmod iter next Exception ValueError TypeError KeyError IndexError LookupError ZeroDivisionError "
    "ArithmeticError OverflowError RuntimeError NotImplementedError AttributeError StopIteration NotImplemented property "
    "classmethod staticmethod super type".split())
METHODS = set(
    "append clear copy count endswith extend find get index insert isalnum isalpha isdigit islower isspace isupper items "
    "join keys ljust lower lstrip partition pop remove replace reverse rfind rjust rpartition rsplit rstrip setdefault "
    "split splitlines startswith strip update upper values zfill bit_length title capitalize swapcase casefold center "
    "expandtabs removeprefix removesuffix rindex isascii isdecimal isnumeric istitle isidentifier isprintable add discard "
    "sort".split())
AT_ONCE = ("range", "zip", "enumerate", "reversed")
TAKERS = {"list", "tuple", "dict", "sorted", "sum", "any", "all", "enumerate", "zip", "min", "max"}
WORDS = re.compile(
    r"\b(typing|typing_extensions|enum|Enum|IntEnum|StrEnum|Flag|IntFlag|Generic|Protocol|ABC|ABCMeta|namedtuple|"
    r"NamedTuple|TypedDict|TYPE_CHECKING|abstractmethod)\b")
NOT_USED = set("register mro elements open input law version_info with_traceback add_note".split())
SPECIAL = set(
    "__init__ __eq__ __str__ __len__ __call__ __contains__ __and__ __or__ __enter__ __exit__ __bool__".split())


def tree_of(path):
    tree = ast.parse(path.read_text(encoding="utf-8"))
    for node in ast.walk(tree):
        for child in ast.iter_child_nodes(node):
            child.above = node
    return tree


TREES = {path: tree_of(path) for path in FILES}


def nodes(*kinds):
    for path, tree in TREES.items():
        for node in ast.walk(tree):
            if isinstance(node, kinds):
                yield path, node


def is_generator(function):
    return any(
        isinstance(node, (ast.Yield, ast.YieldFrom)) for node in ast.walk(function) if node is not function)


FUNCTIONS = [(path, node) for path, node in nodes(ast.FunctionDef)]
GENERATORS = {node.name for _, node in FUNCTIONS if is_generator(node)}
OWN = {node.name for _, node in FUNCTIONS}


def called(node):
    """The name of what a call calls, of a function or a method."""
    if isinstance(node.func, ast.Name):
        return node.func.id
    return node.func.attr if isinstance(node.func, ast.Attribute) else None


def is_iterated(node):
    """Whether a value is iterated on the spot."""
    above = node.above
    if isinstance(above, (ast.For, ast.comprehension)):
        return above.iter is node
    if isinstance(above, ast.Assign):
        return called(node) == "range" and len(above.targets) == 1 and isinstance(above.targets[0], ast.Name)
    if isinstance(above, ast.Call) and isinstance(above.func, ast.Name) and above.func.id in TAKERS:
        return node in above.args
    if isinstance(above, ast.YieldFrom):
        return True
    return isinstance(above, ast.Call) and isinstance(above.func, ast.Attribute) and above.func.attr == "join"


def without_docstrings(path):
    """All strings of a file but the docstrings."""
    docs = set()
    for node in ast.walk(TREES[path]):
        if isinstance(node, (ast.Module, ast.ClassDef, ast.FunctionDef)) and ast.get_docstring(node) is not None:
            docs.add(id(node.body[0].value))
    for node in ast.walk(TREES[path]):
        if isinstance(node, ast.Constant) and isinstance(node.value, str) and id(node) not in docs:
            yield node.value


class Form(unittest.TestCase):
    def test_files(self):
        self.assertTrue(FILES)
        for path in PACKAGE.rglob("*"):
            if "__pycache__" in path.parts:
                continue
            if path.is_dir():
                self.assertTrue((path / "__init__.py").is_file(), path)
                self.assertFalse(path.with_suffix(".py").exists(), path)
            else:
                self.assertEqual(path.suffix, ".py", path)
                self.assertNotIn(path.stem, KNOWN)
            self.assertEqual(path.name, path.name.lower())

    def test_size_and_characters(self):
        for path in FILES:
            text = path.read_text(encoding="utf-8")
            self.assertLessEqual(set(text), SIGNS, path)
            self.assertLessEqual(len(text.splitlines()), 399, path)
            self.assertLessEqual(max(map(len, text.splitlines())), 120, path)
        for path, node in FUNCTIONS:
            self.assertLessEqual(node.end_lineno - node.lineno + 1, 40, (path, node.name))

    def test_imports(self):
        for path, _ in nodes(ast.Import):
            self.fail(path)
        found = {path: set() for path in FILES}
        for path, node in nodes(ast.ImportFrom):
            self.assertEqual(node.level, 0, path)
            self.assertIn(node.module.split(".")[0], LIBRARY | {"needrows"}, path)
            self.assertFalse(any(one.asname or one.name == "*" for one in node.names), path)
            if node.module.startswith("needrows"):
                target = PACKAGE.parent / (node.module.replace(".", "/") + ".py")
                defined = {one.name for one in TREES[target].body if isinstance(one, (ast.FunctionDef, ast.ClassDef))}
                defined |= {one.targets[0].id for one in TREES[target].body if isinstance(one, ast.Assign)}
                self.assertLessEqual({one.name for one in node.names}, defined, path)
                found[path].add(target)
        while found:
            free = [path for path in found if not found[path] & set(found)]
            self.assertTrue(free, "some files import from each other")
            for path in free:
                del found[path]

    def test_module_level(self):
        for path, tree in TREES.items():
            names = []
            for node in tree.body:
                if isinstance(node, ast.ImportFrom):
                    names += [one.name for one in node.names]
                elif isinstance(node, (ast.FunctionDef, ast.ClassDef)):
                    names.append(node.name)
                elif isinstance(node, ast.Assign):
                    self.assertEqual([type(one) for one in node.targets], [ast.Name], path)
                    names.append(node.targets[0].id)
                else:
                    self.assertIsInstance(node, ast.Expr, path)
                    self.assertIsInstance(node.value, ast.Constant, path)
            self.assertEqual(len(names), len(set(names)), path)
            self.assertFalse(set(names) & KNOWN, path)

    def test_names(self):
        for path, node in nodes(ast.Name):
            if node.id in KNOWN:
                self.assertIn(node.id, BUILTINS, path)
                self.assertIsInstance(node.ctx, ast.Load, path)
            if node.id == "type":
                above = node.above.above
                if isinstance(above, ast.Attribute):
                    self.assertEqual(above.attr, "__name__", path)
                else:
                    self.assertIsInstance(above, ast.Compare, path)
                    self.assertIn(above.comparators[0].id, ("int", "str", "bool", "list", "tuple", "dict"), path)
        for path, node in nodes(ast.Constant):
            self.assertNotIsInstance(node.value, (float, complex, bytes), path)
        for path, node in nodes(ast.ClassDef):
            self.assertEqual(node.decorator_list, [], path)
        for path in FILES:
            for text in without_docstrings(path):
                self.assertNotIn("%", text, path)
                self.assertIsNone(WORDS.search(text), path)
            code = "\n".join(line.split("#")[0] for line in ast.unparse(TREES[path]).splitlines())
            self.assertNotIn("_wall", code, path)

    def test_words_that_name_nothing(self):
        for path, tree in TREES.items():
            for node in ast.walk(tree):
                for field in ("id", "arg", "attr", "name"):
                    name = getattr(node, field, None)
                    if isinstance(name, str):
                        self.assertNotIn(name, NOT_USED, path)
                        self.assertFalse(name.startswith("__") and name not in SPECIAL | {"__name__"}, (path, name))

    def test_properties(self):
        """No property is called as a method, an attribute or a method of a builtin value is."""
        properties, methods = set(), set()
        for _, node in FUNCTIONS:
            decorators = [one.id for one in node.decorator_list]
            if isinstance(node.above, ast.ClassDef):
                (properties if "property" in decorators else methods).add(node.name)
        stored = {node.attr for _, node in nodes(ast.Attribute) if isinstance(node.ctx, ast.Store)}
        self.assertFalse(properties & (methods | stored | METHODS))
        self.assertFalse({name for name in stored if name in methods})

    def test_what_is_compared_and_shown_assigns_nothing(self):
        for path, node in FUNCTIONS:
            if node.name in ("__eq__", "__str__", "__len__", "__contains__"):
                for one in ast.walk(node):
                    self.assertNotIsInstance(one, (ast.Assign, ast.AugAssign, ast.Lambda), (path, node.name))

    def test_parameters_and_variables(self):
        for path, tree in TREES.items():
            barred = {one.name for node in tree.body if isinstance(node, ast.ImportFrom) for one in node.names}
            barred |= {node.name for node in tree.body if isinstance(node, ast.ClassDef)} | KNOWN
            for node in ast.walk(tree):
                if isinstance(node, ast.arg):
                    self.assertNotIn(node.arg, barred, path)
                if isinstance(node, ast.Name) and isinstance(node.ctx, ast.Store):
                    self.assertNotIn(node.id, barred, path)
                    self.assertNotIn(node.id, GENERATORS, path)

    def test_functions(self):
        for path, node in FUNCTIONS:
            for one in node.decorator_list:
                self.assertIsInstance(one, ast.Name, path)
                self.assertIn(one.id, ("property", "classmethod", "staticmethod"), path)
            for one in (*node.args.defaults, *(one for one in node.args.kw_defaults if one is not None)):
                self.assertIsInstance(ast.literal_eval(one), (int, str, tuple, bool, type(None)), path)
            if node.name.startswith("__"):
                self.assertIn(node.name, SPECIAL, path)
        names = [node.name for _, node in FUNCTIONS if not node.name.startswith("__")]
        for name in GENERATORS:
            self.assertEqual(names.count(name), 1, name)
            self.assertNotIn(name, METHODS)

    def test_methods_that_are_called(self):
        for path, node in nodes(ast.Call):
            if isinstance(node.func, ast.Attribute):
                self.assertIn(node.func.attr, OWN | METHODS, path)
            if isinstance(node.func, ast.Name) and node.func.id in BUILTINS:
                keys = {one.arg for one in node.keywords}
                self.assertLessEqual(keys, {"key", "reverse", "default", "start", "strict"}, path)

    def test_is(self):
        for path, node in nodes(ast.Compare):
            for sign, value in zip(node.ops, node.comparators):
                if isinstance(sign, (ast.Is, ast.IsNot)):
                    self.assertIsInstance(value, ast.Constant, path)
                    self.assertIn(value.value, (None, True, False), path)

    def test_iterated_at_once(self):
        for path, node in nodes(ast.Call):
            name = called(node)
            plain = isinstance(node.func, ast.Name)
            if plain and name in AT_ONCE or not plain and name in ("items", "keys", "values"):
                self.assertTrue(is_iterated(node), (path, node.lineno, name))
            if name in GENERATORS:
                self.assertTrue(is_iterated(node), (path, node.lineno, name))
                for one in node.args:
                    if isinstance(one, ast.Tuple) and not one.elts:
                        continue
                    self.assertIsInstance(one, (ast.Name, ast.Attribute, ast.Constant), (path, node.lineno))

    def test_sets(self):
        for path, node in nodes(ast.Set, ast.SetComp):
            self.assertFalse(any(isinstance(one, ast.Starred) for one in ast.walk(node)), path)
            self.assertIsInstance(node.above, (ast.Compare, ast.Call, ast.Assign), path)
        for path, node in nodes(ast.Call):
            if called(node) == "set" and isinstance(node.func, ast.Name):
                if isinstance(node.above, ast.Call):
                    self.assertIn(called(node.above), ("sorted", "len"), path)
                else:
                    self.assertIsInstance(node.above, (ast.Compare, ast.Assign), path)

    def test_not_used(self):
        kinds = (
            ast.Global, ast.AsyncFunctionDef, ast.Await, ast.NamedExpr, ast.Pow, ast.Div, ast.GeneratorExp, ast.Import)
        for path, node in nodes(*kinds):
            self.fail((path, ast.dump(node)))


if __name__ == "__main__":
    unittest.main()
