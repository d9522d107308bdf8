"""The rules of the language subset, as far as a look at the code can tell them.

What the package does not use so far is not let here at all, so that it is looked up in
the rules before it is let.
"""

import ast
import builtins
import pathlib
import re
import unittest
import warnings

FOLDER = pathlib.Path(__file__).resolve().parent.parent / "arrowworlds"
FILES = sorted(FOLDER.glob("*.py"))

NODES = (
    ast.Module, ast.Import, ast.ImportFrom, ast.alias, ast.FunctionDef, ast.ClassDef, ast.arguments, ast.arg,
    ast.Return, ast.Assign, ast.AugAssign, ast.For, ast.While, ast.If, ast.Raise, ast.Try, ast.ExceptHandler,
    ast.Expr, ast.Pass, ast.Break, ast.Continue, ast.BoolOp, ast.And, ast.Or, ast.BinOp, ast.Add, ast.Sub, ast.Mult,
    ast.FloorDiv, ast.Mod, ast.Pow, ast.UnaryOp, ast.Not, ast.USub, ast.Compare, ast.Eq, ast.NotEq, ast.Lt, ast.LtE,
    ast.Gt, ast.GtE, ast.Is, ast.IsNot, ast.In, ast.NotIn, ast.Call, ast.keyword, ast.IfExp, ast.Attribute,
    ast.Subscript, ast.Slice, ast.Name, ast.Load, ast.Store, ast.Constant, ast.Tuple, ast.List, ast.Dict,
    ast.ListComp, ast.DictComp, ast.comprehension, ast.Lambda, ast.BitAnd, ast.BitOr, ast.LShift, ast.RShift,
    ast.JoinedStr, ast.FormattedValue)
BUILTINS = ("len", "range", "enumerate", "zip", "min", "max", "sum", "abs", "sorted", "reversed", "int", "str", "bool",
            "list", "tuple", "dict", "set", "isinstance", "any", "all", "type", "ValueError")
METHODS = ("append", "extend", "pop", "get", "items", "setdefault", "index", "count", "copy", "update",
           "values", "bit_length")
BARRED = ("register", "mro", "elements", "open", "input", "law", "version_info", "with_traceback", "add_note", "_wall",
          "_WallAttr", "typing", "enum", "namedtuple", "dataclass", "overload", "contextmanager", "Generic", "Protocol",
          "attrgetter", "breakpoint", "builtins", "compile", "copyright", "credits", "delattr", "dir", "eval", "exec",
          "exit", "gc", "globals", "help", "id", "license", "locals", "os", "quit", "super", "sys", "vars")
LAZY = ("zip", "enumerate", "reversed", "range")
EAGER = ("list", "tuple", "dict", "sorted", "sum", "any", "all", "enumerate", "zip", "reversed", "len")


def functions_of(tree):
    return [node for node in ast.walk(tree) if isinstance(node, ast.FunctionDef)]


def bound_names(node):
    """The names that parameters and targets bind within a function."""
    names = [arg.arg for arg in ast.walk(node) if isinstance(arg, ast.arg)]
    return names + [name.id for name in ast.walk(node) if isinstance(name, ast.Name)
                    and isinstance(name.ctx, ast.Store)]


def module_names(tree):
    """The names that are bound at module level, one entry for each binding."""
    names = []
    for node in tree.body:
        if isinstance(node, ast.ImportFrom):
            names += [alias.name for alias in node.names]
        elif isinstance(node, (ast.FunctionDef, ast.ClassDef)):
            names.append(node.name)
        elif isinstance(node, ast.Assign):
            names += [target.id for target in node.targets]
    return names


def parents_of(tree):
    return {child: node for node in ast.walk(tree) for child in ast.iter_child_nodes(node)}


class Language(unittest.TestCase):

    @classmethod
    def setUpClass(cls):
        cls.texts = {path: path.read_text(encoding="utf-8") for path in FILES}
        cls.trees = {path: ast.parse(text) for path, text in cls.texts.items()}

    def each(self):
        return self.trees.items()

    def test_there_are_files(self):
        self.assertIn("__init__.py", [path.name for path in FILES])
        self.assertLessEqual(len(FILES), 100)
        for path in FOLDER.iterdir():
            if path.name != "__pycache__":
                self.assertRegex(path.name, r"^[a-z_]+\.py$")

    def test_size_and_characters(self):
        for path, text in self.texts.items():
            lines = text.split("\n")
            self.assertLessEqual(len(lines) - 1, 399, path.name)
            for line in lines:
                self.assertLessEqual(len(line), 120, line)
                self.assertRegex(line, r"^[ -~]*$")
            for node in functions_of(self.trees[path]):
                self.assertLessEqual(node.end_lineno - node.lineno + 1, 40, node.name)

    def test_no_warnings(self):
        with warnings.catch_warnings():
            warnings.simplefilter("error")
            for path, text in self.texts.items():
                compile(text, path.name, "exec")

    def test_only_plain_parts_of_the_language(self):
        for path, tree in self.each():
            for node in ast.walk(tree):
                self.assertIsInstance(node, NODES, ast.dump(node)[:200])

    def test_module_level(self):
        for path, tree in self.each():
            for k, node in enumerate(tree.body):
                if isinstance(node, ast.Expr):
                    self.assertTrue(k == 0 and isinstance(node.value.value, str))
                elif isinstance(node, ast.Assign):
                    self.assertEqual(len(node.targets), 1)
                    for part in ast.walk(node.value):
                        self.assertIsInstance(part, (ast.Constant, ast.Tuple, ast.Load))
                else:
                    self.assertIsInstance(node, (ast.ImportFrom, ast.FunctionDef, ast.ClassDef))
            names = module_names(tree)
            self.assertEqual(len(names), len(set(names)))

    def test_imports(self):
        wanted = {}
        defined = {path.stem: module_names(tree) for path, tree in self.trees.items()}
        for path, tree in self.each():
            wanted[path.stem] = []
            for node in ast.walk(tree):
                if isinstance(node, ast.ImportFrom) and node.module == "math":
                    self.assertEqual([(alias.name, alias.asname) for alias in node.names], [("gcd", None)])
                elif isinstance(node, ast.ImportFrom):
                    self.assertIn(node, tree.body)
                    self.assertEqual(node.level, 0)
                    package, _, stem = node.module.partition(".")
                    self.assertEqual(package, "arrowworlds")
                    wanted[path.stem].append(stem)
                    own = [n.name for n in self.trees[FOLDER / (stem + ".py")].body if hasattr(n, "name")]
                    own += [n.targets[0].id for n in self.trees[FOLDER / (stem + ".py")].body
                            if isinstance(n, ast.Assign)]
                    for alias in node.names:
                        self.assertIsNone(alias.asname)
                        self.assertIn(alias.name, own)
                        self.assertIn(alias.name, defined[stem])
                else:
                    self.assertNotIsInstance(node, ast.Import)
        self.check_no_circle(wanted)

    def check_no_circle(self, wanted):
        left = dict(wanted)
        while left:
            free = [stem for stem in left if not any(more in left for more in left[stem])]
            self.assertTrue(free, left)
            left = {stem: left[stem] for stem in left if stem not in free}

    def test_all_imports_are_used(self):
        for path, tree in self.each():
            used = {node.id for node in ast.walk(tree) if isinstance(node, ast.Name)}
            for node in tree.body:
                if isinstance(node, ast.ImportFrom):
                    self.assertLessEqual({alias.name for alias in node.names}, used)

    def test_names(self):
        every = set(dir(builtins)) | set(BARRED)
        for path, tree in self.each():
            taken = [name for name in module_names(tree)]
            for name in taken:
                self.assertNotIn(name, every)
                self.assertRegex(name, r"^[A-Za-z][A-Za-z0-9_]*$")
            imports = [alias.name for node in tree.body if isinstance(node, ast.ImportFrom) for alias in node.names]
            classes = [node.name for node in tree.body if isinstance(node, ast.ClassDef)]
            for function in functions_of(tree):
                for name in bound_names(function):
                    self.assertNotIn(name, every)
                    self.assertNotIn(name, imports + classes)
                    self.assertRegex(name, r"^(_|[A-Za-z][A-Za-z0-9_]*)$")
            for node in ast.walk(tree):
                if isinstance(node, ast.Name) and node.id == "_":
                    self.assertIsInstance(node.ctx, ast.Store)

    def test_only_let_builtins(self):
        for path, tree in self.each():
            own = set(module_names(tree))
            for function in functions_of(tree):
                own |= set(bound_names(function)) | {function.name}
            parents = parents_of(tree)
            for node in ast.walk(tree):
                if isinstance(node, ast.Name) and node.id == "property":
                    self.assertIn(node, parents[node].decorator_list)
                elif isinstance(node, ast.Name) and node.id not in own and node.id in dir(builtins):
                    self.assertIn(node.id, BUILTINS)
                    self.check_builtin(node, parents)

    def check_builtin(self, node, parents):
        above = parents[node]
        if isinstance(above, ast.ClassDef):
            self.assertEqual(node.id, "ValueError")
        elif isinstance(above, ast.keyword):
            self.assertEqual((above.arg, node.id), ("key", "len"))
        elif isinstance(above, ast.Compare):
            self.assertIsInstance(above.left, ast.Call)
            self.assertEqual(above.left.func.id, "type")
        else:
            self.assertIsInstance(above, ast.Call)
            self.assertIs(above.func, node)
            self.check_builtin_call(above, parents)

    def check_builtin_call(self, call, parents):
        name, above = call.func.id, parents[call]
        self.assertIn([part.arg for part in call.keywords], ([], ["key"]) if name == "min" else ([],))
        if name == "type":
            self.assertIsInstance(above, ast.Compare)
            self.assertEqual(len(above.ops), 1)
        elif name == "set":
            self.assertIsInstance(above, ast.Call)
            self.assertIn(above.func.id, ("sorted", "len"))
        elif name in LAZY:
            self.assertIsInstance(above, (ast.For, ast.comprehension, ast.Call, ast.Assign))
            if isinstance(above, ast.Call):
                self.assertIn(above.func.id, EAGER)
            if isinstance(above, ast.Assign):
                self.assertEqual((name, type(above.targets[0])), ("range", ast.Name))

    def test_is(self):
        for path, tree in self.each():
            for node in ast.walk(tree):
                if isinstance(node, ast.Compare):
                    for sign, right in zip(node.ops, node.comparators):
                        if isinstance(sign, (ast.Is, ast.IsNot)):
                            kind = isinstance(node.left, ast.Call) and node.left.func.id == "type"
                            self.assertTrue(kind or isinstance(right, ast.Constant) and right.value is None)

    def test_methods_and_attributes(self):
        own = set()
        for tree in self.trees.values():
            for node in ast.walk(tree):
                if isinstance(node, ast.ClassDef):
                    own |= {part.name for part in node.body if isinstance(part, ast.FunctionDef)}
                if isinstance(node, ast.Attribute) and isinstance(node.ctx, ast.Store):
                    self.assertIsInstance(node.value, ast.Name)
                    own.add(node.attr)
        for path, tree in self.each():
            for node in ast.walk(tree):
                if isinstance(node, ast.Attribute):
                    self.assertIn(node.attr, own | set(METHODS))

    def test_constants(self):
        for path, tree in self.each():
            for node in ast.walk(tree):
                if isinstance(node, ast.Constant):
                    self.assertIn(type(node.value), (int, str, bool, type(None)))

    def test_strings_and_words(self):
        for path, tree in self.each():
            docstrings = [node.body[0].value for node in ast.walk(tree)
                          if isinstance(node, (ast.Module, ast.FunctionDef, ast.ClassDef))
                          and ast.get_docstring(node) is not None]
            for node in ast.walk(tree):
                if isinstance(node, ast.Constant) and isinstance(node.value, str) and node not in docstrings:
                    self.assertNotIn("%", node.value)
                    self.assertNotIn("type", node.value)
                    for word in re.findall(r"\w+", node.value):
                        self.assertNotIn(word, BARRED)
            self.assertNotIn("_wall", self.texts[path])

    def test_classes(self):
        for path, tree in self.each():
            for node in ast.walk(tree):
                if isinstance(node, ast.ClassDef):
                    self.assertIn(node, tree.body)
                    self.assertEqual((node.decorator_list, node.keywords), ([], []))
                    for part in node.body:
                        self.assertIsInstance(part, (ast.FunctionDef, ast.Expr))
                if isinstance(node, ast.FunctionDef):
                    for part in node.decorator_list:
                        self.assertEqual((part.id, len(node.args.args), len(node.body)), ("property", 1, 2))
                    self.assertTrue(not node.name.startswith("__") or node.name == "__init__")

    def test_what_a_loop_goes_over_is_not_changed_in_it(self):
        for path, tree in self.each():
            for node in ast.walk(tree):
                if isinstance(node, ast.For):
                    over = {part.id for part in ast.walk(node.iter) if isinstance(part, ast.Name)}
                    for part in ast.walk(ast.Module(body=node.body, type_ignores=[])):
                        if isinstance(part, ast.Call) and isinstance(part.func, ast.Attribute) \
                                and isinstance(part.func.value, ast.Name) \
                                and part.func.attr in ("append", "extend", "pop", "setdefault"):
                            self.assertNotIn(part.func.value.id, over)
                        if isinstance(part, ast.Subscript) and isinstance(part.ctx, ast.Store):
                            self.assertNotIn(part.value.id, over - self.measured(node.iter))

    def measured(self, over):
        """The names of which a loop head asks the length alone."""
        return {call.args[0].id for call in ast.walk(over) if isinstance(call, ast.Call)
                and isinstance(call.func, ast.Name) and call.func.id == "len" and isinstance(call.args[0], ast.Name)}

    def test_errors_are_raised_and_caught_by_name(self):
        own = [node.name for node in self.trees[FOLDER / "errors.py"].body if isinstance(node, ast.ClassDef)]
        for path, tree in self.each():
            for node in ast.walk(tree):
                if isinstance(node, ast.Raise):
                    self.assertIn(node.exc.func.id, own)
                if isinstance(node, ast.ExceptHandler):
                    self.assertIn(node.type.id, own)
                if isinstance(node, ast.Try):
                    self.assertEqual((node.orelse, node.finalbody), ([], []))

    def test_exponents(self):
        for path, tree in self.each():
            for node in ast.walk(tree):
                if isinstance(node, ast.BinOp) and isinstance(node.op, ast.Pow):
                    self.assertEqual(node.right.id, "k")

    def test_each_function_tells_what_it_does(self):
        for path, tree in self.each():
            self.assertIsNotNone(ast.get_docstring(tree))
            for node in tree.body:
                if isinstance(node, (ast.FunctionDef, ast.ClassDef)):
                    self.assertIsNotNone(ast.get_docstring(node), node.name)


if __name__ == "__main__":
    unittest.main()
