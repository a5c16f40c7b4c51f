"""That the package keeps to the small subset of Python in which it is written, as far as a look at the code tells."""

import ast
import builtins
import functools
import os
import unittest
import warnings

ROOT = os.path.dirname(os.path.dirname(os.path.abspath(__file__)))
PACKAGE = os.path.join(ROOT, "editionlines")

BUILTINS = """len range enumerate zip min max sum abs sorted reversed int str bool list tuple dict set frozenset isinstance
ord repr any all divmod iter next type Exception ValueError TypeError KeyError IndexError LookupError ZeroDivisionError
ArithmeticError OverflowError RuntimeError NotImplementedError NotImplemented property staticmethod classmethod""".split()
METHODS = """append clear copy count endswith extend find get index insert isalnum isalpha isdigit islower isspace isupper
items join keys ljust lower lstrip partition pop remove replace reverse rfind rjust rpartition rsplit rstrip setdefault
split splitlines startswith strip update upper values zfill bit_length removeprefix removesuffix isascii""".split()
DUNDERS = """__init__ __eq__ __repr__ __str__ __len__ __enter__ __exit__ __call__ __iter__ __lt__ __le__ __gt__ __ge__
__add__ __sub__ __mul__ __rmul__ __and__ __or__ __xor__ __neg__ __invert__ __bool__ __contains__ __getitem__""".split()
OPERANDS = {"__contains__": ["self", "x"], "__getitem__": ["self", "at"], "__neg__": ["self"], "__invert__": ["self"],
            "__bool__": ["self"], "__len__": ["self"], "__str__": ["self"], "__iter__": ["self"]}
TWO_SIDED = "__eq__ __lt__ __le__ __gt__ __ge__ __add__ __sub__ __mul__ __rmul__ __and__ __or__ __xor__".split()
NOWHERE = "register mro elements open input law version_info with_traceback add_note".split()
NO_WORDS = """typing typing_extensions enum Enum IntEnum StrEnum Flag IntFlag Generic Protocol ABC ABCMeta namedtuple
NamedTuple TypedDict TYPE_CHECKING abstractmethod""".split()
CHANGES = "append extend insert pop remove clear update setdefault reverse sort add discard".split()
NODES = (ast.GeneratorExp, ast.AsyncFunctionDef, ast.Global, ast.Nonlocal, ast.AnnAssign, ast.Div, ast.Match,
         ast.NamedExpr, ast.SetComp, ast.Set, ast.Import, ast.Delete, ast.Await)


def sources():
    """A dict from the names of the files of the package to their texts."""
    found = {}
    for name in sorted(os.listdir(PACKAGE)):
        if name != "__pycache__":
            with open(os.path.join(PACKAGE, name), encoding="utf-8") as file:
                found[name] = file.read()
    return found


SOURCES = sources()
TREES = {name: ast.parse(text) for name, text in SOURCES.items()}


ALL = [(name, node) for name, tree in TREES.items() for node in ast.walk(tree)]


def nodes(kind):
    """The pairs (name of the file, node) of all nodes of a kind."""
    return [(name, node) for name, node in ALL if isinstance(node, kind)]


CLASSES = {node.name: node for _, node in nodes(ast.ClassDef)}


@functools.lru_cache(None)
def family(name):
    """A class and all classes above it that are own ones."""
    found = [name]
    for base in CLASSES[name].bases:
        if base.id in CLASSES:
            found = found + family(base.id)
    return found


@functools.lru_cache(None)
def methods_of(name):
    return [node for node in CLASSES[name].body if isinstance(node, ast.FunctionDef)]


@functools.lru_cache(None)
def attributes_of(name):
    """The names that the methods of a class assign to their own object."""
    return {target.attr for target in ast.walk(CLASSES[name])
            if isinstance(target, ast.Attribute) and isinstance(target.ctx, ast.Store)
            and isinstance(target.value, ast.Name) and target.value.id == "self"}


def is_setter(node):
    return [ast.unparse(part) for part in node.decorator_list] == [f"{node.name}.setter"]


def is_generator(node):
    return any(isinstance(part, (ast.Yield, ast.YieldFrom)) for part in ast.walk(node))


def top_names(tree):
    """The names that a file binds: imports, functions, classes, values."""
    imported = [part.name for node in tree.body if isinstance(node, ast.ImportFrom) for part in node.names]
    defined = [node.name for node in tree.body if isinstance(node, (ast.FunctionDef, ast.ClassDef))]
    values = [node.targets[0].id for node in tree.body if isinstance(node, ast.Assign)]
    return imported, defined, values


def parts_named(node):
    """The names and fields that an expression may stand for: through items, choices and rows of such, too."""
    if isinstance(node, ast.Name):
        return [node.id]
    if isinstance(node, ast.Attribute):
        return ["." + node.attr]
    if isinstance(node, (ast.Subscript, ast.Starred)):
        return parts_named(node.value)
    rows = {ast.IfExp: lambda: [node.body, node.orelse], ast.BoolOp: lambda: node.values,
            ast.Tuple: lambda: node.elts, ast.List: lambda: node.elts}
    return [name for part in rows.get(type(node), list)() for name in parts_named(part)]


def groups_of(function):
    """A function that tells one word for all names of a function that an assignment makes one another."""
    group = {}

    def first(name):
        while group.get(name, name) != name:
            name = group[name]
        return name

    for node in ast.walk(function):
        if isinstance(node, ast.Assign):
            for one in [name for target in node.targets for name in parts_named(target)]:
                for other in parts_named(node.value):
                    group[first(one)] = first(other)
    return first


def is_text(node):
    """Whether an expression is itself a text, an f-string, str(..), repr(..) or the join of a written text."""
    if isinstance(node, ast.Call):
        if isinstance(node.func, ast.Attribute):
            return node.func.attr == "join" and isinstance(node.func.value, ast.Constant)
        return node.func.id in ("str", "repr")
    return isinstance(node, ast.JoinedStr) or (isinstance(node, ast.Constant) and isinstance(node.value, str))


def walked_names(node):
    """What a loop over an expression walks, also through enumerate, zip and the like."""
    if not isinstance(node, ast.Call):
        return parts_named(node)
    if getattr(node.func, "id", "") in ("enumerate", "zip", "reversed"):
        return [name for part in node.args for name in walked_names(part)]
    if getattr(node.func, "attr", "") in ("items", "keys", "values"):
        return walked_names(node.func.value)
    return []


def changed_names(node):
    """What a statement or a call changes."""
    if isinstance(node, ast.Call) and isinstance(node.func, ast.Attribute) and node.func.attr in CHANGES:
        return parts_named(node.func.value)
    targets = node.targets if isinstance(node, ast.Assign) else [getattr(node, "target", None)]
    return [name for target in targets if isinstance(target, ast.Subscript) for name in parts_named(target)]


class FilesTest(unittest.TestCase):
    def test_characters_and_sizes(self):
        for name, text in SOURCES.items():
            with self.subTest(file=name):
                self.assertRegex(name, r"^[a-z_]+\.py$")
                self.assertTrue(all(sign == "\n" or " " <= sign <= "~" for sign in text))
                self.assertTrue(text.endswith("\n"))
                self.assertLessEqual(len(text.split("\n")) - 1, 399)
                self.assertLessEqual(max(map(len, text.split("\n"))), 120)

    def test_sizes_of_functions(self):
        for name, node in nodes(ast.FunctionDef):
            self.assertLessEqual(node.end_lineno - node.lineno + 1, 40, (name, node.name))

    def test_no_warnings(self):
        with warnings.catch_warnings():
            warnings.simplefilter("error")
            for name, text in SOURCES.items():
                compile(text, name, "exec")

    def test_module_level(self):
        for name, tree in TREES.items():
            self.assertIsNotNone(ast.get_docstring(tree), name)
            for node in tree.body[1:]:
                self.assertIsInstance(node, (ast.ImportFrom, ast.FunctionDef, ast.ClassDef, ast.Assign), name)
                if isinstance(node, ast.Assign):
                    self.assertEqual(len(node.targets), 1)
                    if isinstance(node.value, ast.Dict) and any(isinstance(part, ast.Name) for part in node.value.values):
                        self.assertTrue(all(part.id in top_names(tree)[1] for part in node.value.values), name)
                        self.assertEqual(node, tree.body[-2], name)
                    else:
                        ast.literal_eval(node.value)

    def test_imports(self):
        for name, tree in TREES.items():
            imported, defined, values = top_names(tree)
            bound = imported + defined + values
            self.assertEqual(len(bound), len(set(bound)), name)
            loaded = {node.id for node in ast.walk(tree) if isinstance(node, ast.Name)}
            for part in imported:
                self.assertIn(part, loaded, name)
            for node in tree.body:
                if isinstance(node, ast.ImportFrom):
                    self.assertEqual((node.level, node.module.split(".")[0]), (0, "editionlines"))
                    _, there, constants = top_names(TREES[node.module.split(".")[1] + ".py"])
                    for part in node.names:
                        self.assertIsNone(part.asname)
                        self.assertIn(part.name, there + constants)

    def test_no_ring_of_imports(self):
        ahead = {name: [node.module.split(".")[1] + ".py" for node in tree.body if isinstance(node, ast.ImportFrom)]
                 for name, tree in TREES.items()}
        done = []
        while len(done) < len(ahead):
            free = [name for name in ahead if name not in done and all(part in done for part in ahead[name])]
            self.assertTrue(free, "a ring of imports")
            done += free


class NamesTest(unittest.TestCase):
    def test_builtins(self):
        for name, tree in TREES.items():
            bound = sum(top_names(tree), [])
            for node in ast.walk(tree):
                if isinstance(node, ast.Name) and isinstance(node.ctx, ast.Load) and node.id in dir(builtins):
                    self.assertIn(node.id, BUILTINS + bound, (name, node.lineno))

    def test_no_builtin_is_bound(self):
        for name, tree in TREES.items():
            own = [node.id for node in ast.walk(tree) if isinstance(node, ast.Name) and isinstance(node.ctx, ast.Store)]
            own += [node.arg for node in ast.walk(tree) if isinstance(node, ast.arg)] + sum(top_names(tree), [])
            for word in own:
                self.assertNotIn(word, dir(builtins), name)
                self.assertNotIn(word, NOWHERE, name)
                self.assertRegex(word, r"^(_|_?[A-Za-z][A-Za-z0-9_]*)$")

    def test_no_local_name_of_the_file(self):
        for name, tree in TREES.items():
            imported, defined, _ = top_names(tree)
            own = [node.id for node in ast.walk(tree) if isinstance(node, ast.Name) and isinstance(node.ctx, ast.Store)]
            own += [node.arg for node in ast.walk(tree) if isinstance(node, ast.arg)]
            for word in own:
                # The document calls a parameter as a function beside it.
                if (name, word) != ("repair.py", "mending"):
                    self.assertNotIn(word, imported + defined, name)

    def test_words(self):
        for name, tree in TREES.items():
            for node in ast.walk(tree):
                if isinstance(node, ast.Constant) and isinstance(node.value, str):
                    self.assertNotIn("%", node.value, name)
            for word in NO_WORDS:
                self.assertNotRegex(SOURCES[name], rf"\b{word}\b", name)

    def test_methods_that_are_called(self):
        own = {node.name for _, node in nodes(ast.FunctionDef)}
        for name, node in nodes(ast.Call):
            if isinstance(node.func, ast.Attribute):
                self.assertIn(node.func.attr, own | set(METHODS), (name, node.lineno))

    def test_attributes(self):
        kept = set()
        for name in CLASSES:
            kept |= attributes_of(name)
        methods = {node.name for _, node in nodes(ast.FunctionDef)}
        values = {node.targets[0].id for tree in CLASSES.values() for node in tree.body if isinstance(node, ast.Assign)}
        for name, node in nodes(ast.Attribute):
            if node.attr not in ("__class__", "__name__", "setter"):
                self.assertIn(node.attr, kept | methods | values | set(METHODS), (name, node.lineno))

    def test_no_name_is_a_method_and_an_attribute(self):
        every = {part.name for name in CLASSES for part in methods_of(name)}
        for name in CLASSES:
            above = family(name)
            methods = {part.name for one in above for part in methods_of(one)}
            attributes = {word for one in above for word in attributes_of(one)}
            self.assertFalse(methods & attributes, name)
            self.assertFalse(every & attributes_of(name), name)
            own = [part.name for part in methods_of(name) if not is_setter(part)]
            self.assertEqual(len(own), len(set(own)))

    def test_names_of_generators(self):
        named = [node.name for _, node in nodes(ast.FunctionDef)]
        stored = {word for name in CLASSES for word in attributes_of(name)}
        for name, node in nodes(ast.FunctionDef):
            if is_generator(node):
                self.assertEqual(named.count(node.name), 1, (name, node.name))
                self.assertEqual(node.decorator_list, [])
                self.assertNotIn(node.name, stored)
                self.assertNotIn(node.name, METHODS)

    def test_generators_are_iterated_at_once(self):
        names = {node.name for _, node in nodes(ast.FunctionDef) if is_generator(node)}
        for name, tree in TREES.items():
            good = set()
            for node in ast.walk(tree):
                if isinstance(node, (ast.For, ast.comprehension)):
                    good.add(id(node.iter))
                if isinstance(node, ast.YieldFrom):
                    good.add(id(node.value))
                if isinstance(node, ast.Call) and getattr(node.func, "id", "") in ("list", "tuple"):
                    good |= {id(part) for part in node.args}
            for node in ast.walk(tree):
                if isinstance(node, ast.Call):
                    called = getattr(node.func, "id", getattr(node.func, "attr", ""))
                    if called in names:
                        self.assertIn(id(node), good, (name, node.lineno))
                        for part in node.args:
                            self.assertIn(type(part), (ast.Name, ast.Attribute, ast.Constant), (name, node.lineno))

    def test_no_yield_in_blocks(self):
        for name, node in nodes((ast.With, ast.Try)):
            self.assertFalse(is_generator(node), (name, node.lineno))

    def test_ranges_are_iterated_at_once(self):
        lazy = ("range", "zip", "enumerate", "reversed", "items", "keys", "values")
        for name, tree in TREES.items():
            good = set()
            for node in ast.walk(tree):
                if isinstance(node, (ast.For, ast.comprehension)):
                    good.add(id(node.iter))
                if isinstance(node, ast.Assign) and isinstance(node.targets[0], ast.Name):
                    good.add(id(node.value))
                if isinstance(node, ast.Call) and getattr(node.func, "id", "") in (
                        "list", "tuple", "dict", "sorted", "sum", "enumerate", "zip"):
                    good |= {id(part) for part in node.args}
                if isinstance(node, ast.Compare):
                    good |= {id(part) for part in node.comparators}
            for node in ast.walk(tree):
                if isinstance(node, ast.Call) and getattr(node.func, "id", getattr(node.func, "attr", "")) in lazy:
                    self.assertIn(id(node), good, (name, node.lineno))

    def test_blocks(self):
        for name, node in nodes(ast.With):
            for part in node.items:
                self.assertIsInstance(part.context_expr, ast.Call)
                self.assertIsInstance(part.optional_vars, ast.Name)


class FormsTest(unittest.TestCase):
    def test_nodes(self):
        for name, node in nodes(NODES):
            self.fail((name, node.lineno, node))

    def test_values(self):
        for name, node in nodes(ast.Constant):
            self.assertIn(type(node.value), (int, str, bool, type(None)), name)

    def test_is(self):
        for name, node in nodes(ast.Compare):
            for sign, side in zip(node.ops, node.comparators):
                if isinstance(sign, (ast.Is, ast.IsNot)):
                    is_type = isinstance(side, ast.Call) and side.func.id == "type"
                    self.assertTrue(is_type or getattr(side, "value", 0) in (None, True, False), (name, node.lineno))
                    self.assertTrue(is_type or isinstance(side, ast.Constant), (name, node.lineno))

    def test_sorted_takes_texts(self):
        for name, node in nodes(ast.Call):
            if isinstance(node.func, ast.Name) and node.func.id == "sorted":
                told = node.args[0]
                self.assertIsInstance(told, ast.ListComp, (name, node.lineno))
                self.assertIn(ast.unparse(told.elt.func), ("str", "int"))
                self.assertEqual(node.keywords, [])
            if isinstance(node.func, ast.Name) and node.func.id in ("min", "max"):
                for part in node.args:
                    self.assertEqual(ast.unparse(part.func), "len", (name, node.lineno))
            if isinstance(node.func, ast.Name) and node.func.id in ("any", "all", "sum"):
                self.assertIsInstance(node.args[0], (ast.ListComp, ast.Name), (name, node.lineno))

    def test_stars(self):
        for name, node in nodes(ast.Call):
            stars = [part for part in node.args if isinstance(part, ast.Starred)]
            self.assertLessEqual(len(stars), 1, (name, node.lineno))
            for part in stars:
                self.assertIn(type(part.value), (ast.Name, ast.Attribute), (name, node.lineno))
                for other in node.args:
                    self.assertIn(type(other), (ast.Name, ast.Attribute, ast.Constant, ast.Starred), (name, node.lineno))
            for part in node.keywords:
                self.assertIsNotNone(part.arg, (name, node.lineno))

    def test_errors(self):
        own = [node.name for node in TREES["errors.py"].body if isinstance(node, ast.ClassDef)]
        for name, node in nodes(ast.ExceptHandler):
            self.assertIn(node.type.id, own, (name, node.lineno))
        handlers = {id(part) for _, node in nodes(ast.ExceptHandler) for part in node.body}
        for name, node in nodes(ast.Raise):
            if node.exc is None:
                self.assertIn(id(node), handlers, (name, node.lineno))
            else:
                self.assertIn(node.exc.func.id, own, (name, node.lineno))
                self.assertEqual(node.exc.keywords, [])

    def test_decorators(self):
        for name, node in nodes((ast.FunctionDef, ast.ClassDef)):
            for part in node.decorator_list:
                if not is_setter(node):
                    self.assertIn(ast.unparse(part), ("property", "staticmethod", "classmethod"), (name, node.name))

    def test_double_underscores(self):
        for name, node in nodes(ast.FunctionDef):
            if node.name.startswith("__"):
                told = [part.arg for part in node.args.args]
                self.assertIn(node.name, DUNDERS, name)
                if node.name in OPERANDS:
                    self.assertEqual(told, OPERANDS[node.name], name)
                if node.name in TWO_SIDED:
                    self.assertEqual(told, ["self", "other"], name)
                if node.name in ("__str__", "__repr__", "__len__"):
                    self.assertIsInstance(node.body[-1], ast.Return)

    def test_returns_of_double_underscores(self):
        for name, node in nodes(ast.FunctionDef):
            told = [part.value for part in ast.walk(node) if isinstance(part, ast.Return)]
            if node.name in ("__str__", "__repr__"):
                self.assertTrue(all(is_text(part) for part in told), (name, node.lineno))
            if node.name == "__len__":
                self.assertTrue(all(isinstance(part, ast.Call) and part.func.id == "len" for part in told), (name, node.lineno))
            if node.name == "__init__":
                self.assertEqual(told, [], (name, node.lineno))

    def test_exits(self):
        for name, node in nodes(ast.FunctionDef):
            if node.name == "__exit__":
                for part in ast.walk(node):
                    if isinstance(part, ast.If):
                        self.assertRegex(ast.unparse(part.test), r"^kind is (not )?None$", (name, part.lineno))
                    if isinstance(part, ast.Assign):
                        self.assertRegex(ast.unparse(part), r"^\w+(\.\w+)? = \w+(\.\w+)?$", (name, part.lineno))
                    if isinstance(part, ast.stmt):
                        self.assertIsInstance(part, (ast.FunctionDef, ast.If, ast.Assign), (name, part.lineno))

    def test_what_loops_walk_is_not_changed(self):
        for name, node in nodes(ast.FunctionDef):
            first = groups_of(node)
            for loop in ast.walk(node):
                if isinstance(loop, ast.For):
                    walked = [first(part) for part in walked_names(loop.iter)]
                    for row in loop.body:
                        for part in ast.walk(row):
                            for changed in changed_names(part):
                                self.assertNotIn(first(changed), walked, (name, part.lineno))

    def test_orders_stand_in_no_family(self):
        for name in CLASSES:
            told = [part.name for part in methods_of(name)]
            if "__lt__" in told or "__gt__" in told:
                self.assertEqual(family(name), [name])
                self.assertFalse([other for other in CLASSES if other != name and name in family(other)])

    def test_items_come_with_iteration(self):
        for name in CLASSES:
            told = [part.name for part in methods_of(name)]
            self.assertTrue("__getitem__" not in told or "__iter__" in told, name)
            for part in methods_of(name):
                if part.name == "__iter__":
                    self.assertRegex(ast.unparse(part.body[-1]), r"^return iter\(self\.\w+(\.\w+)?\)$")

    def test_no_class_is_passed_on(self):
        for name, tree in TREES.items():
            heads = {id(node.func) for node in ast.walk(tree) if isinstance(node, ast.Call)}
            heads |= {id(node.value) for node in ast.walk(tree) if isinstance(node, ast.Attribute)}
            heads |= {id(base) for node in ast.walk(tree) if isinstance(node, ast.ClassDef) for base in node.bases}
            heads |= {id(node.type) for node in ast.walk(tree) if isinstance(node, ast.ExceptHandler)}
            for node in ast.walk(tree):
                if isinstance(node, ast.Call) and getattr(node.func, "id", "") == "isinstance":
                    side = node.args[1]
                    heads |= {id(part) for part in (side.elts if isinstance(side, ast.Tuple) else [side])}
            for node in ast.walk(tree):
                if isinstance(node, ast.Name) and node.id in CLASSES:
                    self.assertIn(id(node), heads, (name, node.lineno))


if __name__ == "__main__":
    unittest.main()
