"""What operators, properties and their kin call, by names: a method stands for every method of its name (rule L5).

None of them, through what it calls too, changes what it did not create or calls what it is passed.
"""

import ast
import builtins
import unittest

from test_language import TREES, is_property

CHANGING = {"__init__", "__enter__", "__exit__", "__call__", "__setitem__", "__iadd__", "__isub__"}
CHANGERS = {"append", "clear", "extend", "insert", "pop", "remove", "reverse", "setdefault", "sort", "update", "add",
            "discard"}
PLAIN = {name for made in (str, int, list, dict, tuple) for name in dir(made)} - CHANGERS
MADE_BY = {"list", "dict", "set", "sorted"}


def named(trees):
    """The classes, the functions and the methods of some trees, each by its name (methods: a list of pairs)."""
    classes, functions, methods = {}, {}, {}
    for tree in trees:
        for node in tree.body:
            if isinstance(node, ast.FunctionDef):
                functions.setdefault(node.name, []).append(node)
            if isinstance(node, ast.ClassDef):
                classes[node.name] = node
                for inner in node.body:
                    if isinstance(inner, ast.FunctionDef):
                        methods.setdefault(inner.name, []).append(inner)
    return classes, functions, methods


def is_made(value, classes):
    """Whether a value is written down as a new list, dict or object."""
    if isinstance(value, (ast.List, ast.Dict, ast.ListComp, ast.DictComp)):
        return True
    return isinstance(value, ast.Call) and isinstance(value.func, ast.Name) and value.func.id in {*classes, *MADE_BY}


def made_names(node, classes):
    """The local names of a function that are assigned nothing but what it makes."""
    made, other = set(), {arg.arg for arg in node.args.args}
    if node.name == "__init__":
        made, other = {node.args.args[0].arg}, other - {node.args.args[0].arg}
    for inner in ast.walk(node):
        if isinstance(inner, ast.Assign):
            for name in inner.targets:
                if isinstance(name, ast.Name):
                    (made if is_made(inner.value, classes) else other).add(name.id)
    return made - other


def changes(node, classes):
    """What a function changes without having made it."""
    made = made_names(node, classes)
    found = []
    for inner in ast.walk(node):
        held = None
        if isinstance(inner, (ast.Attribute, ast.Subscript)) and isinstance(inner.ctx, (ast.Store, ast.Del)):
            held = inner.value
        if isinstance(inner, ast.Call) and isinstance(inner.func, ast.Attribute) and inner.func.attr in CHANGERS:
            held = inner.func.value
        if held is not None and not (isinstance(held, ast.Name) and held.id in made):
            found.append(ast.unparse(inner))
    return found


def called(node, classes, functions, methods):
    """The functions and methods that a function can call, by names, and what it calls that has no such name."""
    nodes, other = [], []
    for inner in ast.walk(node):
        if not isinstance(inner, ast.Call):
            continue
        if isinstance(inner.func, ast.Attribute) and inner.func.attr == "__init__":
            nodes.extend(inits(inner.func.value.id, classes))
            continue
        name = inner.func.attr if isinstance(inner.func, ast.Attribute) else inner.func.id
        # A name stands for all that is called so, functions and methods.
        nodes.extend(inits(name, classes) + functions.get(name, []) + methods.get(name, []))
        if isinstance(inner.func, ast.Attribute):
            known = name in {*methods, *PLAIN, *CHANGERS}
        else:
            known = name in classes or name in functions or hasattr(builtins, name)
        if not known:
            other.append(ast.unparse(inner))
    return nodes, other


def inits(name, classes):
    """What makes the objects of a class: its own `__init__`, or those above it."""
    if name not in classes:
        return []
    own = [inner for inner in classes[name].body if isinstance(inner, ast.FunctionDef) and inner.name == "__init__"]
    return own or [node for base in classes[name].bases for node in inits(base.id, classes)]


def faults(trees):
    """Each fault: the operator or property, the function that it reaches, and what that one does."""
    classes, functions, methods = named(trees)
    found = []
    for name, rows in methods.items():
        for root in rows:
            if not is_property(root) and (name[:2] != "__" or name in CHANGING):
                continue
            reached, queue = set(), [root]
            while queue:
                node = queue.pop()
                if node not in reached:
                    reached.add(node)
                    nodes, other = called(node, classes, functions, methods)
                    queue.extend(nodes)
                    found.extend((name, node.name, text) for text in changes(node, classes) + other)
    return found


FAULTY = """
class House:
    @classmethod
    def of(cls, table):
        return cls(table)

class Book:
    @classmethod
    def of(cls, table):
        book = cls(table)
        book._fill(table)
        return book
    def _fill(self, table):
        self._rules = table
    @property
    def enough(self):
        return enough_of(self)
    def __len__(self):
        return len(self._rules(self))
    def __add__(self, other):
        other.append(1)
        return [].append(other)

def enough_of(book):
    return House.of({})
"""


class Names(unittest.TestCase):
    def test_operators_and_properties(self):
        self.assertEqual(faults(TREES.values()), [])

    def test_that_faults_are_found(self):
        found = faults([ast.parse(FAULTY)])
        self.assertIn(("enough", "_fill", "self._rules"), found)
        self.assertIn(("__add__", "__add__", "other.append(1)"), found)
        self.assertIn(("__len__", "__len__", "self._rules(self)"), found)


if __name__ == "__main__":
    unittest.main()
