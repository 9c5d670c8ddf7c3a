"""The rules for the program's language that can be seen in its files, one test for each (or for several alike)."""

import ast
import builtins
import pathlib
import unittest

FOLDER = pathlib.Path(__file__).resolve().parent.parent / "nextkind"
FILES = {path.name: path.read_text(encoding="utf-8") for path in sorted(FOLDER.glob("*.py"))}
TREES = {name: ast.parse(text) for name, text in FILES.items()}

BUILTINS = set("""len range enumerate zip min max sum abs sorted reversed int str bool list tuple dict set isinstance ord
repr any all divmod iter ValueError TypeError property classmethod staticmethod""".split())
NO_NAMES = set("""register mro elements open input law version_info with_traceback add_note attrgetter breakpoint builtins
compile copyright credits delattr dir eval exec exit gc getattr globals hasattr help id importlib license locals
methodcaller os quit setattr super type vars sys""".split())
NO_WORDS = set("""type typing typing_extensions enum Enum IntEnum StrEnum Flag IntFlag Generic Protocol ABC ABCMeta
namedtuple NamedTuple TypedDict TYPE_CHECKING abstractmethod dataclass overload contextmanager""".split())
SIGNS = set("""init eq repr str len enter exit call iter lt le gt ge ne add sub mul floordiv mod and or rmul iadd isub
bool contains getitem setitem""".split())
FREE = ("__init__", "__enter__", "__exit__", "__setitem__", "__iadd__", "__isub__")
NO_STATEMENTS = (ast.Global, ast.AsyncFunctionDef, ast.AsyncFor, ast.AsyncWith, ast.AugAssign, ast.GeneratorExp,
                 ast.Lambda, ast.AnnAssign, ast.Await, ast.Div, ast.Import, ast.Try, ast.Nonlocal)


def walk(*kinds):
    """All nodes of some kinds, with the names of their files."""
    return [(name, node) for name, tree in TREES.items() for node in ast.walk(tree) if isinstance(node, kinds)]


def functions():
    return walk(ast.FunctionDef)


def classes():
    return walk(ast.ClassDef)


def docstrings():
    """The nodes of all docstrings."""
    found = []
    for _, node in walk(ast.Module, ast.ClassDef, ast.FunctionDef):
        if node.body and isinstance(node.body[0], ast.Expr) and isinstance(node.body[0].value, ast.Constant):
            found.append(node.body[0].value)
    return found


def is_property(node):
    return any(isinstance(sign, ast.Name) and sign.id == "property" for sign in node.decorator_list)


class Sizes(unittest.TestCase):
    def test_folder(self):
        self.assertIn("__init__.py", FILES)
        rest = [path.name for path in FOLDER.iterdir() if path.suffix != ".py" and path.name != "__pycache__"]
        self.assertEqual(rest, [])

    def test_files_and_lines(self):
        for name, text in FILES.items():
            lines = text.split("\n")
            self.assertLessEqual(len(lines), 400, name)
            self.assertLessEqual(max(len(line) for line in lines), 120, name)
            self.assertTrue(all(sign == "\n" or " " <= sign <= "~" for sign in text), name)

    def test_functions(self):
        for name, node in functions():
            self.assertLessEqual(node.end_lineno - node.lineno + 1, 40, (name, node.name))
            self.assertTrue(node.name.startswith("__") or ast.get_docstring(node), (name, node.name))


class Imports(unittest.TestCase):
    def names(self, tree):
        return [node.name for node in tree.body if isinstance(node, (ast.ClassDef, ast.FunctionDef))]

    def test_by_full_names_from_the_file_that_defines_them(self):
        for name, node in walk(ast.ImportFrom):
            self.assertEqual(node.level, 0)
            self.assertIn(node, TREES[name].body, name)
            package, file = node.module.split(".")
            self.assertEqual(package, "nextkind")
            for alias in node.names:
                self.assertIsNone(alias.asname)
                self.assertIn(alias.name, self.names(TREES[file + ".py"]), (name, alias.name))

    def test_no_circles(self):
        below = {name: {node.module.split(".")[1] + ".py" for node in tree.body if isinstance(node, ast.ImportFrom)}
                 for name, tree in TREES.items()}
        while below:
            free = [name for name in below if not below[name] & set(below)]
            self.assertTrue(free, below)
            below = {name: rows for name, rows in below.items() if name not in free}

    def test_all_used(self):
        for name, tree in TREES.items():
            used = {node.id for node in ast.walk(tree) if isinstance(node, ast.Name)}
            for node in tree.body:
                if isinstance(node, ast.ImportFrom):
                    self.assertEqual([alias.name for alias in node.names if alias.name not in used], [], name)


class Statements(unittest.TestCase):
    def test_none_that_is_not_used(self):
        self.assertEqual([(name, node.__class__.__name__) for name, node in walk(*NO_STATEMENTS)], [])

    def test_module_level(self):
        for name, tree in TREES.items():
            for node in tree.body[1:]:
                self.assertIsInstance(node, (ast.ImportFrom, ast.ClassDef, ast.FunctionDef, ast.Assign), name)
                if isinstance(node, ast.Assign):
                    self.assertTrue(len(node.targets) == 1 and node.targets[0].id.isupper(), name)
                    if isinstance(node.value, ast.Dict):
                        self.check_table(name, tree, node)
                    else:
                        self.assertIsInstance(eval(ast.unparse(node.value), {"__builtins__": {}}), int)
            self.assertIsNotNone(ast.get_docstring(tree), name)

    def check_table(self, name, tree, made):
        """Fail unless a dict has words and functions defined above it, and is only copied by `list` and indexed."""
        above = [node.name for node in tree.body[:tree.body.index(made)] if isinstance(node, ast.FunctionDef)]
        self.assertTrue(all(isinstance(key, ast.Constant) and isinstance(key.value, str) for key in made.value.keys), name)
        self.assertTrue(all(isinstance(value, ast.Name) and value.id in above for value in made.value.values), name)
        told = made.targets[0].id
        nodes = [node for node in ast.walk(tree) if isinstance(node, (ast.Call, ast.Subscript, ast.Attribute, ast.Compare))]
        used = [ast.unparse(node) for node in nodes for part in ast.iter_child_nodes(node)
                if isinstance(part, ast.Name) and part.id == told]
        self.assertEqual(len(used), len([node for node in ast.walk(tree) if isinstance(node, ast.Name) and node.id == told]) - 1)
        self.assertTrue(all(text == f"list({told})" or text.startswith(f"{told}[") for text in used), used)

    def test_decorators(self):
        for name, node in functions():
            for sign in node.decorator_list:
                self.assertIsInstance(sign, ast.Name)
                self.assertIn(sign.id, ("property", "classmethod", "staticmethod"), name)
        self.assertTrue(all(not node.decorator_list for _, node in classes()))

    def test_double_underscores(self):
        for name, node in functions():
            if node.name.startswith("__"):
                self.assertIn(node.name[2:-2], SIGNS, name)
        for name, node in walk(ast.Attribute):
            if node.attr.startswith("__"):
                self.assertEqual(node.attr, "__init__", name)

    def test_raise_makes_its_error_on_the_spot(self):
        errors = {node.name for node in TREES["errors.py"].body if isinstance(node, ast.ClassDef)}
        refusals = [node.body[0] for name, node in functions() if node.name == "__iter__"]
        for name, node in walk(ast.Raise):
            self.assertIsInstance(node.exc, ast.Call, name)
            self.assertEqual(node.exc.keywords, [], name)
            # A class that is asked by an index, but not gone through, has an `__iter__` that says so.
            self.assertIn(node.exc.func.id, {"TypeError"} if node in refusals else errors, name)
            if node.cause is not None and ast.unparse(node.cause) != "None":
                self.assertIn(node.cause.func.id, errors, name)

    def test_is_beside_none_alone(self):
        for name, node in walk(ast.Compare):
            for sign, right in zip(node.ops, node.comparators):
                if isinstance(sign, (ast.Is, ast.IsNot)):
                    self.assertTrue(isinstance(right, ast.Constant) and right.value is None, name)

    def test_sorted_min_and_max(self):
        """Houses and standings have an order that is not whole: only what is plainly numbers or a set is sorted."""
        for name, node in walk(ast.Call):
            if not isinstance(node.func, ast.Name):
                continue
            if node.func.id == "sorted":
                self.assertEqual(ast.unparse(node), "sorted(set(list(things)))", name)
            if node.func.id in ("min", "max"):
                self.assertEqual(len(node.args), 1)
                self.assertIsInstance(node.args[0], ast.ListComp, name)
                self.assertEqual(node.args[0].elt.func.id, "int", name)
            if node.func.id in ("any", "all"):
                self.assertIsInstance(node.args[0], ast.ListComp, name)
            if node.func.id == "sum":
                self.assertIsInstance(node.args[0], (ast.ListComp, ast.Name), name)

    def test_strings(self):
        told = docstrings()
        for name, node in walk(ast.Constant):
            if isinstance(node.value, str) and node not in told:
                self.assertNotIn(chr(37), node.value, name)
                self.assertNotIn(node.value, NO_WORDS, name)
            self.assertNotIsInstance(node.value, (float, bytes, complex), name)

    def test_exponents(self):
        for name, node in walk(ast.BinOp):
            if isinstance(node.op, ast.Pow):
                self.assertTrue(isinstance(node.right, ast.Constant) and 0 <= node.right.value <= 64, name)


class With(unittest.TestCase):
    def test_what_enter_and_exit_do(self):
        for name, made in classes():
            rows = {node.name: node for node in made.body if isinstance(node, ast.FunctionDef)}
            self.assertEqual("__enter__" in rows, "__exit__" in rows, made.name)
            if "__exit__" in rows:
                self.assertEqual([arg.arg for arg in rows["__exit__"].args.args], ["self", "kind", "value", "trace"])
                for row in rows["__exit__"].body:
                    self.assertIsInstance(row, ast.Assign, name)
                    self.assertIsInstance(row.value, ast.Attribute, name)

    def test_what_is_held(self):
        for name, node in walk(ast.With):
            self.assertEqual([ast.unparse(item.context_expr) for item in node.items], ["self.trial()"], name)


class Indexed(unittest.TestCase):
    def test_iteration_beside_an_index(self):
        for name, made in classes():
            rows = {node.name: node for node in made.body if isinstance(node, ast.FunctionDef)}
            if "__getitem__" in rows:
                self.assertIn("__iter__", rows, made.name)
            if "__iter__" in rows:
                self.assertEqual(len(rows["__iter__"].body), 1)
                self.assertIn(ast.unparse(rows["__iter__"].body[0])[:17], ("return iter(self.", "raise TypeError('"))
            for told, node in rows.items():
                if told == "__len__":
                    self.assertEqual(ast.unparse(node.body[-1])[:11], "return len(", made.name)


class Names(unittest.TestCase):
    def stored(self, tree):
        """All names that a file binds but by imports."""
        found = [node.id for node in ast.walk(tree) if isinstance(node, ast.Name) and isinstance(node.ctx, ast.Store)]
        found += [node.arg for node in ast.walk(tree) if isinstance(node, ast.arg)]
        return found + [node.name for node in tree.body if isinstance(node, (ast.ClassDef, ast.FunctionDef))]

    def test_builtins(self):
        for name, tree in TREES.items():
            bound = set(self.stored(tree))
            self.assertEqual(sorted(bound & set(dir(builtins))), [], name)
            self.assertEqual(sorted(bound & NO_NAMES), [], name)
            for node in ast.walk(tree):
                if isinstance(node, ast.Name) and hasattr(builtins, node.id):
                    self.assertIn(node.id, BUILTINS, name)

    def test_each_bound_once_in_a_file(self):
        for name, tree in TREES.items():
            top = [alias.name for node in tree.body if isinstance(node, ast.ImportFrom) for alias in node.names]
            top += [node.name for node in tree.body if isinstance(node, (ast.ClassDef, ast.FunctionDef))]
            top += [node.targets[0].id for node in tree.body if isinstance(node, ast.Assign)]
            self.assertEqual(len(top), len(set(top)), name)
            inner = [node.id for part in tree.body if not isinstance(part, ast.Assign) for node in ast.walk(part)
                     if isinstance(node, ast.Name) and isinstance(node.ctx, ast.Store)]
            inner += [node.arg for node in ast.walk(tree) if isinstance(node, ast.arg)]
            self.assertEqual(sorted(set(inner) & set(top)), [], name)

    def test_methods_properties_and_attributes(self):
        methods, properties = set(), set()
        for _, made in classes():
            rows = [node for node in made.body if isinstance(node, ast.FunctionDef)]
            self.assertEqual(len(rows), len({node.name for node in rows}), made.name)
            properties |= {node.name for node in rows if is_property(node)}
            methods |= {node.name for node in rows if not is_property(node)}
        stored = {node.attr for _, node in walk(ast.Attribute) if isinstance(node.ctx, ast.Store)}
        self.assertEqual(methods & properties, set())
        self.assertEqual(stored & (methods | properties), set())
        self.assertEqual({name for name in methods | properties | stored if name in NO_NAMES}, set())
        plain = {name for made in (str, int, list, dict, set, bytes, tuple) for name in dir(made)}
        self.assertEqual({name for name in methods | properties | stored if name in plain and name[:2] != "__"}, set())

    def test_generators(self):
        yielding = [node.name for _, node in functions() if any(isinstance(inner, ast.Yield) for inner in ast.walk(node))]
        self.assertEqual(sorted(yielding), ["fitting", "lesser", "rows"])
        for told in yielding:
            self.assertEqual(len([1 for _, node in functions() if node.name == told]), 1)
            called = [node for _, node in walk(ast.Call)
                      if getattr(node.func, "id", getattr(node.func, "attr", None)) == told]
            self.assertEqual(called, [])

    def test_nothing_is_changed_but_ones_own(self):
        """No operator and no property assigns an attribute or an item."""
        for name, made in classes():
            for node in made.body:
                if not isinstance(node, ast.FunctionDef) or node.name in FREE:
                    continue
                changed = [inner for inner in ast.walk(node) if isinstance(inner, (ast.Attribute, ast.Subscript))
                           and isinstance(inner.ctx, (ast.Store, ast.Del))]
                if node.name.startswith("__") or is_property(node):
                    self.assertEqual(changed, [], (name, node.name))


if __name__ == "__main__":
    unittest.main()
