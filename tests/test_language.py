"""The rules of LANGUAGE.md that can be read off the code, more strictly than there where that is simpler."""

import ast
import builtins
import pathlib
import unittest

FOLDER = pathlib.Path(__file__).resolve().parent.parent / "oncetested"
FILES = sorted(FOLDER.glob("*.py"))
LIBRARY = {("math", "gcd"), ("math", "comb"), ("math", "factorial"), ("itertools", "combinations"), ("itertools", "permutations")}
BUILTINS = set("len range enumerate zip min max sum abs sorted reversed int str bool list tuple dict set isinstance ord repr any "
               "all divmod Exception ValueError TypeError KeyError IndexError LookupError".split())
METHODS = set("append clear copy count endswith extend find get index insert items join keys partition pop remove replace rpartition "
              "setdefault split startswith strip update values bit_length".split())
DOUBLE = {"__init__", "__eq__", "__len__", "__call__"}
UNUSED = set("register mro elements open input law version_info with_traceback add_note attrgetter breakpoint builtins compile "
             "copyright credits delattr dir eval exec exit gc getattr globals hasattr help id importlib license locals "
             "methodcaller os quit setattr super type vars sys".split())
STATEMENTS = (ast.Assign, ast.AugAssign, ast.If, ast.While, ast.For, ast.Return, ast.Break, ast.Continue, ast.Raise, ast.Try,
              ast.Expr, ast.FunctionDef, ast.ClassDef, ast.ImportFrom, ast.Pass)
LOOSE = (ast.GeneratorExp, ast.SetComp, ast.Set, ast.Lambda, ast.Yield, ast.YieldFrom, ast.Await, ast.NamedExpr, ast.Nonlocal,
         ast.Global, ast.Delete, ast.With, ast.Match, ast.AsyncFunctionDef, ast.AnnAssign, ast.Div, ast.Pow, ast.Is, ast.IsNot)
AT_ONCE = {"range", "zip", "enumerate", "reversed"}
VIEWS = {"items", "keys", "values"}


def functions_of(tree):
    return [node for node in ast.walk(tree) if isinstance(node, ast.FunctionDef)]


def assigned(function):
    """The parameters and local variables of a function."""
    names = [argument.arg for argument in function.args.args]
    return names + [node.id for node in ast.walk(function) if isinstance(node, ast.Name) and isinstance(node.ctx, ast.Store)]


class TestLanguage(unittest.TestCase):
    def setUp(self):
        self.trees = {path.name: ast.parse(path.read_text()) for path in FILES}
        self.own = {node.name for tree in self.trees.values() for node in ast.walk(tree)
                    if isinstance(node, (ast.FunctionDef, ast.ClassDef))}

    def each(self):
        for name, tree in self.trees.items():
            for node in ast.walk(tree):
                yield f"{name}:{getattr(node, 'lineno', 0)}", node

    def test_files(self):
        self.assertTrue(FILES)
        for path in FOLDER.iterdir():
            self.assertTrue(path.suffix == ".py" or path.name == "__pycache__", path)
        for path in FILES:
            text = path.read_text()
            lines = text.split("\n")
            self.assertLessEqual(len(lines), 399, path)
            self.assertTrue(text.endswith("\n"), path)
            for number, line in enumerate(lines, 1):
                self.assertLessEqual(len(line), 120, f"{path}:{number}")
                self.assertTrue(all(" " <= sign <= "~" for sign in line), f"{path}:{number}")
                self.assertEqual(line, line.rstrip(), f"{path}:{number}")

    def test_functions_are_short(self):
        for name, tree in self.trees.items():
            for function in functions_of(tree):
                self.assertLessEqual(function.end_lineno - function.lineno + 1, 40, f"{name}:{function.name}")
                self.assertIsNone(function.returns)
                arguments = function.args
                self.assertFalse(arguments.vararg or arguments.kwarg or arguments.kwonlyargs or arguments.posonlyargs)

    def test_statements_and_expressions(self):
        for place, node in self.each():
            if isinstance(node, ast.stmt):
                self.assertIsInstance(node, STATEMENTS, place)
            if isinstance(node, ast.Compare):
                for operator, right in zip(node.ops, node.comparators):
                    if isinstance(operator, (ast.Is, ast.IsNot)):
                        self.assertIsInstance(right, ast.Constant, place)
                        self.assertIsNone(right.value, place)
            elif not isinstance(node, (ast.Is, ast.IsNot)):
                self.assertNotIsInstance(node, LOOSE, place)
            if isinstance(node, ast.Constant):
                self.assertIsInstance(node.value, (int, str, type(None)), place)
            if isinstance(node, ast.Constant) and isinstance(node.value, str):
                self.assertNotIn("%", node.value, place)
            if isinstance(node, ast.ExceptHandler):
                self.assertIsInstance(node.type, ast.Name, place)
                self.assertIn(node.type.id, self.own, place)

    def test_module_level(self):
        for name, tree in self.trees.items():
            for node in tree.body:
                plain = isinstance(node, (ast.FunctionDef, ast.ClassDef, ast.ImportFrom))
                text = isinstance(node, ast.Expr) and isinstance(node.value, ast.Constant)
                value = isinstance(node, ast.Assign) and len(node.targets) == 1 and isinstance(node.value, (ast.Constant, ast.Dict, ast.Tuple))
                self.assertTrue(plain or text or value, f"{name}:{node.lineno}")
            self.assertTrue(ast.get_docstring(tree), name)

    def test_imports(self):
        defined = {name[:-3]: {node.name for node in tree.body if isinstance(node, (ast.FunctionDef, ast.ClassDef))}
                   | {node.targets[0].id for node in tree.body if isinstance(node, ast.Assign)} for name, tree in self.trees.items()}
        edges = {name: set() for name in defined}
        for name, tree in self.trees.items():
            imported = []
            for node in ast.walk(tree):
                self.assertNotIsInstance(node, ast.Import)
                if isinstance(node, ast.ImportFrom):
                    for alias in node.names:
                        self.assertIsNone(alias.asname)
                        imported.append(alias.name)
                        if (node.module, alias.name) not in LIBRARY:
                            package, module = node.module.split(".")
                            self.assertEqual(package, "oncetested")
                            self.assertIn(alias.name, defined[module], name)
                            edges[name[:-3]].add(module)
            self.assertEqual(len(imported), len(set(imported)), name)
            used = {node.id for node in ast.walk(tree) if isinstance(node, ast.Name)}
            self.assertEqual(set(imported) - used, set(), name)
            taken = set(imported) | {node.name for node in tree.body if isinstance(node, (ast.FunctionDef, ast.ClassDef))}
            for function in functions_of(tree):
                self.assertEqual(set(assigned(function)) & taken, set(), f"{name}:{function.name}")
        self.check_no_ring(edges)

    def check_no_ring(self, edges):
        left = dict(edges)
        while left:
            free = [name for name in left if not left[name] & set(left)]
            self.assertTrue(free, left)
            left = {name: left[name] for name in left if name not in free}

    def test_names(self):
        # Doctests leave a name of one stroke among the builtins.
        barred = (set(dir(builtins)) | UNUSED) - {"copyright", "_"}
        for name, tree in self.trees.items():
            for node in ast.walk(tree):
                if isinstance(node, ast.FunctionDef):
                    if node.name.startswith("__"):
                        self.assertIn(node.name, DOUBLE, name)
                    self.assertEqual(set(assigned(node)) & barred, set(), f"{name}:{node.name}")
                    self.assertNotIn(node.name, barred, name)
                    for decorator in node.decorator_list:
                        self.assertEqual(ast.unparse(decorator), "staticmethod", name)
                if isinstance(node, ast.Attribute):
                    self.assertFalse(node.attr.startswith("_") and node.attr != "__init__", f"{name}:{node.lineno}")

    def test_unread_names_are_not_read(self):
        for place, node in self.each():
            if isinstance(node, ast.Name) and node.id == "_":
                self.assertIsInstance(node.ctx, ast.Store, place)

    def test_calls(self):
        for name, tree in self.trees.items():
            imported = {alias.name for node in tree.body if isinstance(node, ast.ImportFrom) for alias in node.names}
            known = self.own | imported | BUILTINS
            for node in ast.walk(tree):
                if isinstance(node, ast.Call):
                    place = f"{name}:{node.lineno}"
                    if isinstance(node.func, ast.Name):
                        self.assertTrue(node.func.id in known or node.func.id in ("board", "form", "net", "one", "other", "action"), place)
                        self.check_keywords(node, place)
                    else:
                        self.assertIsInstance(node.func, ast.Attribute, place)
                        self.assertIn(node.func.attr, METHODS | self.own, place)

    def check_keywords(self, call, place):
        if call.func.id in BUILTINS:
            for keyword in call.keywords:
                self.assertIn((call.func.id, keyword.arg), {("sorted", "key"), ("min", "key"), ("max", "key"), ("max", "default"), ("min", "default")}, place)

    def test_iterated_at_once(self):
        for name, tree in self.trees.items():
            parents = {child: node for node in ast.walk(tree) for child in ast.iter_child_nodes(node)}
            for node in ast.walk(tree):
                if not isinstance(node, ast.Call):
                    continue
                place, parent = f"{name}:{node.lineno}", parents[node]
                plain = isinstance(node.func, ast.Name) and node.func.id in AT_ONCE
                view = isinstance(node.func, ast.Attribute) and node.func.attr in VIEWS
                if plain or view:
                    loop = isinstance(parent, (ast.For, ast.comprehension)) and parent.iter is node
                    taken = isinstance(parent, ast.Call) and isinstance(parent.func, ast.Name) and parent.args[0] is node
                    allowed = {"list", "tuple", "dict", "sorted", "sum", "any", "all", "enumerate", "combinations", "permutations"}
                    if plain and node.func.id == "range":
                        allowed = allowed | {"reversed"}
                    self.assertTrue(loop or taken and parent.func.id in allowed, place)
                if isinstance(node.func, ast.Name) and node.func.id == "set":
                    taken = isinstance(parent, ast.Call) and isinstance(parent.func, ast.Name) and parent.func.id in ("len", "sorted")
                    self.assertTrue(taken and not parent.keywords, place)

    def test_stars(self):
        for place, node in self.each():
            if isinstance(node, ast.Starred):
                self.assertIsInstance(node.value, (ast.Name, ast.Attribute), place)

    def test_classes(self):
        for name, tree in self.trees.items():
            for node in ast.walk(tree):
                if isinstance(node, ast.ClassDef):
                    self.assertFalse(node.decorator_list)
                    methods = {part.name for part in node.body if isinstance(part, ast.FunctionDef)}
                    stored = {part.attr for part in ast.walk(node) if isinstance(part, ast.Attribute) and isinstance(part.ctx, ast.Store)}
                    self.assertEqual(methods & stored, set(), name)

    def test_nested_comprehensions_have_names_of_their_own(self):
        kinds = (ast.ListComp, ast.DictComp)
        for name, tree in self.trees.items():
            for function in functions_of(tree):
                for outer in ast.walk(function):
                    if isinstance(outer, kinds):
                        for inner in ast.walk(outer):
                            if isinstance(inner, kinds) and inner is not outer:
                                own = {part.id for part in ast.walk(inner) if isinstance(part, ast.Name) and isinstance(part.ctx, ast.Store)}
                                inside = {part for part in ast.walk(inner)}
                                further = {part.id for part in ast.walk(function) if isinstance(part, ast.Name)
                                           and isinstance(part.ctx, ast.Store) and part not in inside}
                                further |= {argument.arg for argument in function.args.args}
                                self.assertEqual(own & further, set(), f"{name}:{inner.lineno}")


if __name__ == "__main__":
    unittest.main()
