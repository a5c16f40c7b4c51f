"""That signs, comparisons, str, len, truth and properties change nothing and call nothing that is handed to them.

This is looked for in the code, through all that they call: a method by its name, so that each class that has one counts.
"""

import ast
import unittest

from test_language import CHANGES, CLASSES, TREES, methods_of, top_names

# What may change things, or is looked at elsewhere.
FREE = ("__init__", "__call__", "__enter__", "__exit__", "__iter__")
NEW = ("list", "dict", "sorted", "set")


def is_looked_at(node):
    if node.name.startswith("__"):
        return node.name not in FREE
    return any(ast.unparse(part) == "property" for part in node.decorator_list)


def home(name, word):
    """The file in which a word of a file is defined."""
    for node in TREES[name].body:
        if isinstance(node, ast.ImportFrom) and word in [part.name for part in node.names]:
            return node.module.split(".")[1] + ".py"
    return name


FILES = {node.name: name for name, tree in TREES.items() for node in tree.body if isinstance(node, ast.ClassDef)}
FUNCTIONS = {(name, node.name): node for name, tree in TREES.items() for node in tree.body if isinstance(node, ast.FunctionDef)}
METHODS = {}
for one in CLASSES:
    for node in methods_of(one):
        METHODS.setdefault(node.name, []).append((FILES[one], node))


def inits(word):
    """The pairs of a file and a method that run when an object of a class is made."""
    found = [(FILES[word], node) for node in methods_of(word) if node.name == "__init__"]
    return found or [pair for base in CLASSES[word].bases if base.id in CLASSES for pair in inits(base.id)]


def values_of(function):
    """A dict from the local names of a function to the values that they are assigned, None for what is not plain."""
    found = {}
    for node in ast.walk(function):
        targets = node.targets if isinstance(node, ast.Assign) else [getattr(node, "target", None)]
        for target in [target for target in targets if target is not None]:
            for part in ast.walk(target):
                if isinstance(part, ast.Name) and isinstance(part.ctx, ast.Store):
                    value = node.value if isinstance(node, ast.Assign) and part is target else None
                    found.setdefault(part.id, []).append(value)
    return found


def is_new(value):
    """Whether a value is a list or dict that is made there."""
    if isinstance(value, (ast.List, ast.Dict, ast.ListComp, ast.DictComp)):
        return True
    return isinstance(value, ast.Call) and getattr(value.func, "id", "") in NEW


def is_made(value):
    """Whether a value is an object of the package that is made there."""
    return isinstance(value, ast.Call) and getattr(value.func, "id", "") in CLASSES


class Look:
    """What a function calls, and what of it must not be."""

    def __init__(self, name, function):
        self.name = name
        self.function = function
        self.called = []
        self.wrong = []
        self.values = values_of(function)
        told = [part for part in ast.walk(function) if isinstance(part, ast.arguments)]
        self.passed = {part.arg for row in told for part in (*row.args, *row.kwonlyargs, row.vararg, row.kwarg) if part}
        for node in ast.walk(function):
            if isinstance(node, (ast.Attribute, ast.Subscript)) and not isinstance(node.ctx, ast.Load):
                self.look_at_target(node)
            if isinstance(node, ast.Call):
                self.look_at_call(node)

    def is_own(self, node, rule):
        """Whether a node is a local name that is assigned only what the rule tells True of."""
        word = getattr(node, "id", None)
        return word in self.values and word not in self.passed and all(rule(value) for value in self.values[word])

    def refuse(self, node):
        self.wrong.append((self.name, self.function.name, node.lineno, ast.unparse(node)))

    def look_at_target(self, node):
        if isinstance(node, ast.Subscript):
            good = self.is_own(node.value, is_new)
        else:
            good = self.is_own(node.value, is_made)
            good = good or (self.function.name == "__init__" and getattr(node.value, "id", "") == "self")
        if not good:
            self.refuse(node)

    def look_at_call(self, node):
        if isinstance(node.func, ast.Attribute):
            if node.func.attr in CHANGES and not self.is_own(node.func.value, is_new):
                self.refuse(node)
            self.called += METHODS.get(node.func.attr, [])
        elif not isinstance(node.func, ast.Name):
            self.refuse(node)
        elif node.func.id == "cls":
            pass
        elif node.func.id in self.passed or node.func.id in self.values:
            self.refuse(node)
        else:
            self.look_at_name(node.func.id)

    def look_at_name(self, word):
        there = home(self.name, word)
        if (there, word) in FUNCTIONS:
            self.called.append((there, FUNCTIONS[there, word]))
        elif word in top_names(TREES[there])[1]:
            self.called += inits(word)


LOOKS = {}


def wrong_in(name, function):
    """What must not be in a function of a file, nor in what it calls."""
    ahead = [(name, function)]
    met = set()
    found = []
    while ahead:
        file, node = ahead.pop()
        if id(node) not in met:
            met.add(id(node))
            if id(node) not in LOOKS:
                LOOKS[id(node)] = Look(file, node)
            found += LOOKS[id(node)].wrong
            ahead += LOOKS[id(node)].called
    return found


class SignsTest(unittest.TestCase):
    def test_signs_change_nothing(self):
        many = 0
        for word in CLASSES:
            for node in methods_of(word):
                if is_looked_at(node):
                    many += 1
                    with self.subTest(of=word, sign=node.name):
                        self.assertEqual(wrong_in(FILES[word], node), [])
        self.assertGreater(many, 100)

    def test_what_changes_is_found(self):
        # So that the test above would tell something.
        for word, method in (("Words", "take"), ("Words", "take_by"), ("Deed", "read"), ("Project", "do"), ("Desk", "ask")):
            for node in methods_of(word):
                if node.name == method:
                    self.assertTrue(wrong_in(FILES[word], node), (word, method))


if __name__ == "__main__":
    unittest.main()
