"""The package keeps to the subset of Python that it is written in.

What is checked is narrower than the subset in places: what the package does not need at all
(with, match, lambda, generators, sets but two kinds, floats, Python's own errors caught) is refused
here altogether.
"""

import ast
import builtins
import os
import unittest

import spanalike

FOLDER = os.path.dirname(os.path.abspath(spanalike.__file__))
LIBRARY = {
    "heapq": {"heappush", "heappop", "heapify", "heapreplace", "heappushpop"},
    "math": {"gcd", "lcm", "isqrt", "comb", "perm", "factorial"},
    "itertools": {"product", "combinations", "permutations"},
}
BUILTINS = set(
    "len range enumerate zip min max sum abs sorted reversed int str bool list tuple dict set isinstance ord repr any"
    " all divmod type ValueError staticmethod".split()
)
METHODS = set(
    "append clear copy count endswith extend find get index insert isalnum isalpha isdigit islower isspace isupper"
    " items join keys ljust lower lstrip partition pop remove replace reverse rfind rjust rpartition rsplit rstrip"
    " setdefault split splitlines startswith strip update upper values zfill bit_length add discard".split()
)
DUNDERS = {"__init__", "__eq__", "__repr__", "__str__", "__len__", "__call__", "__bool__", "__contains__"}
WORDS = (
    "typing typing_extensions enum Enum IntEnum StrEnum Flag IntFlag Generic Protocol ABC ABCMeta namedtuple NamedTuple"
    " TypedDict TYPE_CHECKING abstractmethod"
).split()
NO_NAMES = (
    "register mro elements open input law version_info with_traceback add_note"
    " attrgetter breakpoint compile copyright credits delattr dir eval exec exit gc getattr globals hasattr help id"
    " importlib license locals methodcaller os quit setattr super vars sys"
).split()
NO_ATTRIBUTES = set(
    "items keys values pop update append clear extend insert remove reverse setdefault sort args encode decode hex"
    " fromhex format format_map mro real imag numerator denominator conjugate bit_count to_bytes from_bytes is_integer"
    " as_integer_ratio union difference".split()
)
REFUSED = (
    ast.With, ast.Match, ast.Lambda, ast.GeneratorExp, ast.Yield, ast.YieldFrom, ast.Global, ast.Nonlocal,
    ast.Delete, ast.NamedExpr, ast.Set, ast.SetComp, ast.AsyncFunctionDef, ast.Await, ast.AsyncFor, ast.AsyncWith,
    ast.Div, ast.MatMult, ast.Import, ast.AnnAssign, ast.Starred, ast.Assert,
)


def files():
    return sorted(name for name in os.listdir(FOLDER) if name != "__pycache__")


def source(name):
    with open(os.path.join(FOLDER, name), encoding="utf-8") as file:
        return file.read()


TREES = {name: ast.parse(source(name)) for name in files()}


def functions(tree):
    return [node for node in ast.walk(tree) if isinstance(node, ast.FunctionDef)]


def bound_in(function):
    """The names of the parameters and local variables of a function."""
    names = [arg.arg for arg in function.args.args + function.args.kwonlyargs]
    names += [arg.arg for arg in (function.args.vararg, function.args.kwarg) if arg]
    for node in ast.walk(function):
        if isinstance(node, ast.Name) and isinstance(node.ctx, ast.Store):
            names.append(node.id)
        if isinstance(node, ast.ExceptHandler) and node.name:
            names.append(node.name)
    return names


def top_names(tree):
    """The names that a module binds: imported, defined, assigned."""
    found = []
    for node in tree.body:
        if isinstance(node, ast.ImportFrom):
            found += [alias.asname or alias.name for alias in node.names]
        elif isinstance(node, (ast.FunctionDef, ast.ClassDef)):
            found.append(node.name)
        elif isinstance(node, ast.Assign):
            found += [target.id for target in node.targets]
    return found


def defined_names(tree):
    found = []
    for node in tree.body:
        if isinstance(node, (ast.FunctionDef, ast.ClassDef)):
            found.append(node.name)
        elif isinstance(node, ast.Assign):
            found += [target.id for target in node.targets]
    return found


def classes():
    return {node.name: node for tree in TREES.values() for node in tree.body if isinstance(node, ast.ClassDef)}


def own_errors():
    return [node.name for node in TREES["errors.py"].body if isinstance(node, ast.ClassDef)]


def own_methods():
    return {item.name for node in classes().values() for item in node.body if isinstance(item, ast.FunctionDef)}


def parents(tree):
    return {child: node for node in ast.walk(tree) for child in ast.iter_child_nodes(node)}


def string_words(tree):
    """The words of all strings of a file but docstrings."""
    notes = set()
    for node in ast.walk(tree):
        if isinstance(node, (ast.Module, ast.ClassDef, ast.FunctionDef)) and ast.get_docstring(node):
            notes.add(node.body[0].value)
    for node in ast.walk(tree):
        if isinstance(node, ast.Constant) and isinstance(node.value, str) and node not in notes:
            yield from node.value.replace(",", " ").split()


def code_names(tree):
    """All names, attributes and parameters of a file."""
    for node in ast.walk(tree):
        if isinstance(node, ast.Name):
            yield node.id
        elif isinstance(node, ast.Attribute):
            yield node.attr
        elif isinstance(node, ast.arg):
            yield node.arg
        elif isinstance(node, (ast.FunctionDef, ast.ClassDef)):
            yield node.name


class TestLanguage(unittest.TestCase):
    def each(self):
        return list(TREES.items())

    def test_files(self):
        self.assertLessEqual(len(files()), 100)
        self.assertIn("__init__.py", files())
        for name in files():
            self.assertRegex(name, r"^[a-z_0-9]+\.py$")
            self.assertNotIn(name[:-3], dir(builtins))

    def test_sizes_and_signs(self):
        for name, tree in self.each():
            lines = source(name).split("\n")
            self.assertLessEqual(len(lines), 399)
            for line in lines:
                self.assertLessEqual(len(line), 120)
                self.assertTrue(all(" " <= sign <= "~" for sign in line), line)
                self.assertEqual(line, line.rstrip())
            for function in functions(tree):
                self.assertLessEqual(function.end_lineno - function.lineno + 1, 40, function.name)

    def test_imports(self):
        for name, tree in self.each():
            at_top = True
            for number, node in enumerate(tree.body):
                if isinstance(node, ast.ImportFrom):
                    self.assertTrue(at_top)
                    self.assertEqual(node.level, 0)
                    self.assertTrue(all(alias.asname is None and alias.name != "*" for alias in node.names))
                    names = {alias.name for alias in node.names}
                    if node.module in LIBRARY:
                        self.assertLessEqual(names, LIBRARY[node.module])
                    else:
                        file = node.module.split(".")[1] + ".py"
                        self.assertEqual(node.module, "spanalike." + file[:-3])
                        self.assertLessEqual(names, set(defined_names(TREES[file])))
                elif number > 0:
                    at_top = False
            read = {node.id for node in ast.walk(tree) if isinstance(node, ast.Name)}
            for node in tree.body:
                if isinstance(node, ast.ImportFrom):
                    for alias in node.names:
                        self.assertIn(alias.name, read, (name, "imported and not used"))

    def test_no_files_import_from_each_other(self):
        behind = {
            name: {
                node.module.split(".")[1] + ".py" for node in tree.body
                if isinstance(node, ast.ImportFrom) and node.module.startswith("spanalike.")
            }
            for name, tree in TREES.items()
        }
        while behind:
            free = [name for name, needed in behind.items() if not needed & set(behind)]
            self.assertTrue(free, behind)
            for name in free:
                del behind[name]

    def test_statements(self):
        for name, tree in self.each():
            for node in ast.walk(tree):
                self.assertNotIsInstance(node, REFUSED, getattr(node, "lineno", None))
                if isinstance(node, ast.Constant):
                    self.assertNotIsInstance(node.value, (float, complex, bytes))
                    if isinstance(node.value, str) and "%" in node.value:
                        self.fail("a % in a string")
                if isinstance(node, ast.BinOp) and isinstance(node.op, ast.Pow):
                    self.assertIsInstance(node.right, ast.Constant)
                    self.assertLessEqual(node.right.value, 64)
                if isinstance(node, ast.Try):
                    self.assertEqual((node.finalbody, node.orelse), ([], []))
                    self.assertTrue(all(handler.type.id in own_errors() for handler in node.handlers))
                if isinstance(node, ast.Raise):
                    self.assertIsInstance(node.exc, ast.Call)
                    self.assertIsNone(node.cause)
                if isinstance(node, ast.Compare):
                    for sign, side in zip(node.ops, node.comparators):
                        if isinstance(sign, (ast.Is, ast.IsNot)) and not isinstance(side, ast.Constant):
                            self.assertTrue(self.asks_the_class(node.left))

    def asks_the_class(self, node):
        return isinstance(node, ast.Call) and isinstance(node.func, ast.Name) and node.func.id == "type"

    def test_module_level(self):
        for name, tree in self.each():
            names = top_names(tree)
            self.assertEqual(len(names), len(set(names)))
            self.assertIsNotNone(ast.get_docstring(tree))
            for node in tree.body[1:]:
                self.assertIsInstance(node, (ast.ImportFrom, ast.FunctionDef, ast.ClassDef, ast.Assign))
                if isinstance(node, ast.Assign):
                    self.assertEqual(len(node.targets), 1)
                    self.plain_value(node, [item.name for item in functions(tree) if item.lineno < node.lineno])

    def plain_value(self, node, above):
        """What is assigned is a literal, or a dict of functions that are defined above."""
        if isinstance(node.value, ast.Dict) and all(isinstance(item, ast.Name) for item in node.value.values):
            self.assertTrue(all(item.id in above for item in node.value.values))
            self.assertTrue(all(isinstance(item, ast.Constant) for item in node.value.keys))
        else:
            ast.literal_eval(node.value)

    def test_names(self):
        for name, tree in self.each():
            barred = set()
            for node in tree.body:
                if isinstance(node, ast.ImportFrom):
                    barred |= {alias.name for alias in node.names}
                if isinstance(node, ast.ClassDef):
                    barred.add(node.name)
            for word in top_names(tree):
                self.assertNotIn(word, dir(builtins))
            for function in functions(tree):
                for word in bound_in(function):
                    self.assertNotIn(word, dir(builtins), function.name)
                    self.assertNotIn(word, barred, function.name)
                    self.assertRegex(word, r"^([a-z][a-z0-9_]*|_)$")
                for node in ast.walk(function):
                    if isinstance(node, ast.Name) and isinstance(node.ctx, ast.Load):
                        self.assertNotEqual(node.id, "_")

    def test_words(self):
        for name, tree in self.each():
            names, strings = set(code_names(tree)), set(string_words(tree))
            for word in WORDS:
                self.assertNotIn(word, names | strings)
            for word in NO_NAMES:
                self.assertNotIn(word, names)

    def test_builtins_and_methods(self):
        methods, known = own_methods(), {word for tree in TREES.values() for word in top_names(tree)}
        for name, tree in self.each():
            local = {word for function in functions(tree) for word in bound_in(function)} | set(top_names(tree))
            for node in ast.walk(tree):
                if isinstance(node, ast.Name) and node.id not in local:
                    self.assertIn(node.id, BUILTINS)
                if isinstance(node, ast.Call) and isinstance(node.func, ast.Attribute):
                    self.assertIn(node.func.attr, METHODS | methods)
                if isinstance(node, ast.Call) and isinstance(node.func, ast.Name):
                    self.assertIn(node.func.id, BUILTINS | known | local)
                    self.assertTrue(all(word.arg == "key" for word in node.keywords) or node.func.id in known)
                if isinstance(node, ast.Attribute) and isinstance(node.ctx, ast.Store):
                    self.assertNotIn(node.attr, NO_ATTRIBUTES | methods)

    def test_classes(self):
        for name, node in classes().items():
            with self.subTest(name=name):
                self.assertRegex(name, r"^[A-Z][A-Za-z]*$")
                self.assertEqual(node.decorator_list, [])
                self.assertLessEqual(len(node.bases), 1)
                told = [item.name for item in node.body if isinstance(item, ast.FunctionDef)]
                self.assertEqual(len(told), len(set(told)))
                for item in node.body:
                    if isinstance(item, ast.FunctionDef):
                        self.assertTrue(not item.name.startswith("__") or item.name in DUNDERS)
                        for decorator in item.decorator_list:
                            self.assertEqual(decorator.id, "staticmethod")
                    else:
                        self.assertIsInstance(item, ast.Expr)

    def test_classes_are_called_or_asked_for(self):
        known = classes()
        for name, tree in self.each():
            above = parents(tree)
            for node in ast.walk(tree):
                if isinstance(node, ast.Name) and node.id in known:
                    around = above[node]
                    called = isinstance(around, ast.Call) and around.func is node
                    if isinstance(around, ast.Tuple):
                        around = above[around]
                    asked = isinstance(around, ast.Call) and node not in around.args[:1]
                    asked = asked and isinstance(around.func, ast.Name) and around.func.id == "isinstance"
                    base = isinstance(around, ast.ClassDef)
                    method = isinstance(around, ast.Attribute) and isinstance(above[around], ast.Call)
                    compared = isinstance(around, ast.Compare) and self.asks_the_class(around.left)
                    caught = isinstance(around, ast.ExceptHandler)
                    self.assertTrue(called or asked or base or method or compared or caught, (node.id, node.lineno))

    def test_kept_sets(self):
        for name, tree in self.each():
            above = parents(tree)
            for node in ast.walk(tree):
                if isinstance(node, ast.Call) and isinstance(node.func, ast.Name) and node.func.id == "set":
                    around = above[node]
                    is_sorted = isinstance(around, ast.Call) and around.func.id == "sorted"
                    self.assertTrue(is_sorted or isinstance(around, ast.Assign))

    def test_iterated_at_once(self):
        for name, tree in self.each():
            above = parents(tree)
            for node in ast.walk(tree):
                if not isinstance(node, ast.Call) or not isinstance(node.func, (ast.Name, ast.Attribute)):
                    continue
                word = node.func.id if isinstance(node.func, ast.Name) else node.func.attr
                lazy = ("zip", "enumerate", "reversed", "range", "combinations", "items", "keys", "values")
                if word in lazy:
                    around = above[node]
                    looped = isinstance(around, (ast.For, ast.comprehension)) and around.iter is node
                    taken = isinstance(around, ast.Call) and isinstance(around.func, ast.Name) and around.func.id in (
                        "list", "tuple", "sorted", "sum", "any", "all", "enumerate", "zip", "combinations")
                    self.assertTrue(looped or taken, (word, node.lineno))


if __name__ == "__main__":
    unittest.main()
