"""The rules of the language subset that a look at the files of the package can tell."""

import ast
import builtins
import os
import re
import unittest

import pushedback

FOLDER = os.path.dirname(pushedback.__file__)
NODES = (
    ast.Module, ast.FunctionDef, ast.ClassDef, ast.Return, ast.Delete, ast.Assign, ast.For, ast.While, ast.If,
    ast.Raise, ast.ImportFrom, ast.Expr, ast.Break, ast.Continue, ast.Pass, ast.BoolOp, ast.BinOp, ast.UnaryOp,
    ast.IfExp, ast.Dict, ast.ListComp, ast.Compare, ast.Call, ast.Constant, ast.Attribute, ast.Subscript, ast.Starred,
    ast.Name, ast.List, ast.Tuple, ast.Slice, ast.AugAssign, ast.Yield, ast.YieldFrom, ast.alias, ast.arguments,
    ast.arg, ast.keyword, ast.comprehension, ast.expr_context, ast.boolop, ast.unaryop, ast.cmpop,
    ast.JoinedStr, ast.FormattedValue, ast.Try, ast.ExceptHandler,
    ast.Add, ast.Sub, ast.Mult, ast.FloorDiv, ast.Mod, ast.BitAnd, ast.BitOr, ast.BitXor, ast.LShift, ast.RShift,
)
CALLED = {
    "len", "range", "enumerate", "zip", "min", "max", "sum", "abs", "sorted", "int", "str", "bool", "list", "tuple",
    "dict", "set", "isinstance", "any", "all", "iter", "TypeError",
}
CLASS_ITSELF = "cls"
LIBRARY = {"math": {"gcd", "lcm", "isqrt", "comb", "perm", "factorial"}}
METHODS = {
    "append", "clear", "copy", "count", "endswith", "extend", "find", "get", "index", "insert", "isdigit", "items",
    "join", "keys", "pop", "remove", "replace", "reverse", "rfind", "setdefault", "split", "startswith", "strip",
    "update", "values",
}
DUNDERS = {
    "__init__", "__eq__", "__repr__", "__str__", "__len__", "__call__", "__iter__", "__add__", "__getitem__",
    "__contains__", "__invert__",
}
CHANGING = {"append", "clear", "extend", "insert", "pop", "remove", "reverse", "setdefault", "update"}
DECORATORS = {"property", "staticmethod", "classmethod"}
NEVER = {"register", "mro", "elements", "open", "input", "law", "version_info", "with_traceback", "add_note"}
WORDS = (
    "type|typing|enum|Enum|Flag|Generic|Protocol|ABC|ABCMeta|namedtuple|NamedTuple|TypedDict|abstractmethod|_wall")


def files():
    return sorted(name for name in os.listdir(FOLDER) if name != "__pycache__")


def source(name):
    with open(os.path.join(FOLDER, name), encoding="utf-8") as file:
        return file.read()


def own_methods():
    """The names of all methods of the package's classes that are no double-underscore ones."""
    return {name for _, _, methods in classes() for name in methods if not name.startswith("__")}


def trees():
    for name in files():
        yield name, ast.parse(source(name))


def classes():
    """Each class of the package, with its file and its methods."""
    for name, tree in trees():
        for node in tree.body:
            if isinstance(node, ast.ClassDef):
                yield name, node, {part.name: part for part in node.body if isinstance(part, ast.FunctionDef)}


def returns_of(function):
    """The values that a function returns."""
    return [part.value for part in ast.walk(function) if isinstance(part, ast.Return)]


def is_call_of(node, names):
    return isinstance(node, ast.Call) and isinstance(node.func, ast.Name) and node.func.id in names


def is_text_form(node):
    """Whether the value has one of the forms in which __str__ and __repr__ may return it."""
    if isinstance(node, ast.JoinedStr) or isinstance(node, ast.Constant) and isinstance(node.value, str):
        return True
    if is_call_of(node, ("str", "repr")):
        return True
    joins = isinstance(node, ast.Call) and isinstance(node.func, ast.Attribute) and node.func.attr == "join"
    return joins and isinstance(node.func.value, ast.Constant)


def is_new_list(node):
    """Whether the value is a list that is made just there."""
    return isinstance(node, (ast.List, ast.ListComp)) or is_call_of(node, ("list", "dict", "sorted"))


def bound_names(node):
    """The names that a function's parameters and rows bind."""
    names = set()
    for part in ast.walk(node):
        if isinstance(part, ast.arg):
            names.add(part.arg)
        if isinstance(part, ast.Name) and isinstance(part.ctx, ast.Store):
            names.add(part.id)
    return names


class LanguageTest(unittest.TestCase):
    def test_files(self):
        for name in files():
            self.assertRegex(name, r"\A[a-z_][a-z0-9_]*\.py\Z")
            text = source(name)
            self.assertRegex(text, r"\A[ -~\n]*\Z", name)
            lines = text.split("\n")
            self.assertLessEqual(len(lines), 400, name)
            self.assertLessEqual(max(len(line) for line in lines), 120, name)
            self.assertNotIn("_wall", text)

    def test_nodes(self):
        for name, tree in trees():
            for node in ast.walk(tree):
                self.assertIsInstance(node, NODES, (name, getattr(node, "lineno", 0)))

    def test_module_level(self):
        for name, tree in trees():
            bound = []
            for node in tree.body:
                self.assertIsInstance(
                    node, (ast.Expr, ast.ImportFrom, ast.FunctionDef, ast.ClassDef, ast.Assign), name)
                if isinstance(node, ast.Expr):
                    self.assertIsInstance(node.value.value, str)
                if isinstance(node, ast.Assign):
                    ast.literal_eval(node.value)
                    bound.extend(target.id for target in node.targets)
                if isinstance(node, ast.ImportFrom):
                    bound.extend(alias.name for alias in node.names)
                if isinstance(node, (ast.FunctionDef, ast.ClassDef)):
                    bound.append(node.name)
            self.assertEqual(len(bound), len(set(bound)), name)
            self.assertFalse(set(bound) & set(dir(builtins)), name)

    def test_imports(self):
        graph = {}
        for name, tree in trees():
            graph[name] = set()
            for node in ast.walk(tree):
                if not isinstance(node, ast.ImportFrom):
                    continue
                self.assertIn(node, tree.body)
                self.assertTrue(all(alias.asname is None for alias in node.names))
                self.assertEqual(node.level, 0)
                if node.module in LIBRARY:
                    self.assertLessEqual({alias.name for alias in node.names}, LIBRARY[node.module])
                    continue
                package, module = node.module.split(".")
                self.assertEqual(package, "pushedback")
                graph[name].add(module + ".py")
                own = ast.parse(source(module + ".py")).body
                made = {part.name for part in own if isinstance(part, (ast.FunctionDef, ast.ClassDef))}
                made |= {part.targets[0].id for part in own if isinstance(part, ast.Assign)}
                self.assertLessEqual({alias.name for alias in node.names}, made, name)
        while graph:
            free = [name for name, needs in graph.items() if not needs & set(graph)]
            self.assertTrue(free, graph)
            for name in free:
                del graph[name]

    def test_imports_are_used(self):
        for name, tree in trees():
            used = {node.id for node in ast.walk(tree) if isinstance(node, ast.Name)}
            for node in tree.body:
                if isinstance(node, ast.ImportFrom):
                    self.assertLessEqual({alias.name for alias in node.names}, used, name)

    def test_functions(self):
        for name, tree in trees():
            barred = set(dir(builtins)) | NEVER
            for node in tree.body:
                if isinstance(node, ast.ImportFrom):
                    barred |= {alias.name for alias in node.names}
                if isinstance(node, ast.ClassDef):
                    barred.add(node.name)
            for node in ast.walk(tree):
                if not isinstance(node, ast.FunctionDef):
                    continue
                self.assertLessEqual(node.end_lineno - node.lineno, 39, (name, node.name))
                self.assertFalse(bound_names(node) & barred, (name, node.name, bound_names(node) & barred))
                decorators = {part.id for part in node.decorator_list}
                self.assertLessEqual(decorators, DECORATORS)
                self.assertTrue(ast.get_docstring(node) or node.name in DUNDERS, (name, node.name))
                if node.name.startswith("__"):
                    self.assertIn(node.name, DUNDERS)
                for default in node.args.defaults:
                    ast.literal_eval(default)

    def test_calls(self):
        own = set()
        for _, tree in trees():
            own |= {node.name for node in ast.walk(tree) if isinstance(node, (ast.FunctionDef, ast.ClassDef))}
        own |= LIBRARY["math"]
        methods = METHODS | own_methods() | {"__init__"}
        for name, tree in trees():
            for node in ast.walk(tree):
                if not isinstance(node, ast.Call):
                    continue
                place = (name, node.lineno)
                if isinstance(node.func, ast.Name):
                    self.assertIn(node.func.id, CALLED | own | {CLASS_ITSELF}, place)
                    if node.func.id in CALLED:
                        self.assertFalse(node.keywords, place)
                else:
                    self.assertIsInstance(node.func, ast.Attribute, place)
                    self.assertIn(node.func.attr, methods, place)
                for part in node.args:
                    if isinstance(part, ast.Starred):
                        self.assertIsInstance(part.value, ast.Name, place)

    def test_names_and_signs(self):
        for name, tree in trees():
            for node in ast.walk(tree):
                place = (name, getattr(node, "lineno", 0))
                if isinstance(node, ast.Name):
                    self.assertNotIn(node.id, NEVER, place)
                    self.assertFalse(node.id == "_" and isinstance(node.ctx, ast.Load), place)
                if isinstance(node, ast.Attribute):
                    self.assertNotIn(node.attr, NEVER | {"format", "args"}, place)
                if isinstance(node, ast.Constant):
                    self.assertIsInstance(node.value, (int, str, type(None)), place)
                if isinstance(node, ast.Constant) and isinstance(node.value, str):
                    self.assertNotIn("%", node.value, place)
                    self.assertIsNone(re.search(rf"\b({WORDS})\b", node.value), place)
                if isinstance(node, ast.Compare):
                    for sign, side in zip(node.ops, node.comparators):
                        if isinstance(sign, (ast.Is, ast.IsNot)):
                            self.assertIsInstance(side, ast.Constant, place)
                if isinstance(node, ast.AugAssign):
                    # other sums and differences are written out, so that operators may call all functions
                    self.assertIsInstance(node.op, (ast.Add, ast.Sub), place)
                    self.assertIsInstance(node.value, ast.Constant, place)

    def test_sets(self):
        for name, tree in trees():
            sorts = [node for node in ast.walk(tree) if is_call_of(node, ("sorted", "len"))]
            allowed = [node.args[0] for node in sorts if len(node.args) == 1]
            for node in ast.walk(tree):
                if is_call_of(node, ("set",)):
                    self.assertIn(node, allowed, (name, node.lineno))

    def test_texts_and_lengths(self):
        for name, node, methods in classes():
            for method in ("__str__", "__repr__"):
                if method in methods:
                    for value in returns_of(methods[method]):
                        self.assertTrue(is_text_form(value), (name, value.lineno))
            if "__len__" in methods:
                for value in returns_of(methods["__len__"]):
                    self.assertTrue(is_call_of(value, ("len",)), (name, value.lineno))
            for method in ("__str__", "__repr__", "__len__"):
                if method in methods:
                    self.assertIsInstance(methods[method].body[-1], ast.Return, (name, node.name))
            for method in methods.values():
                if method.name == "__init__":
                    self.assertEqual(returns_of(method), [], (name, node.name))

    def test_items_and_iteration(self):
        known = {}
        for name, node, methods in classes():
            known[node.name] = set(methods)
            for base in node.bases:
                known[node.name] |= known.get(base.id, set())
            self.assertTrue("__getitem__" not in known[node.name] or "__iter__" in known[node.name], node.name)
            if "__iter__" in methods:
                body = [part for part in methods["__iter__"].body if not isinstance(part, ast.Expr)]
                self.assertEqual(len(body), 1, (name, node.name))
                if isinstance(body[0], ast.Return):
                    self.assertTrue(is_call_of(body[0].value, ("iter",)), (name, node.name))
                    self.assertIsInstance(body[0].value.args[0], ast.Attribute, (name, node.name))

    def test_class_names(self):
        properties, plain, attributes = set(), set(), set()
        for name, node, methods in classes():
            for method in methods.values():
                decorators = [part.id for part in method.decorator_list]
                (properties if decorators == ["property"] else plain).add(method.name)
            attributes |= {part.attr for part in ast.walk(node)
                           if isinstance(part, ast.Attribute) and isinstance(part.ctx, ast.Store)}
        self.assertFalse(properties & plain)
        self.assertFalse(attributes & (properties | plain))
        for value in ("", 0, [], {}, (), set(), b""):
            self.assertFalse((properties | plain - DUNDERS) & set(dir(value)))

    def test_class_bodies(self):
        for name, node, methods in classes():
            for part in node.body:
                self.assertIsInstance(part, (ast.Expr, ast.FunctionDef, ast.Assign), (name, node.name))
                if isinstance(part, ast.Expr):
                    self.assertIsInstance(part.value.value, str)
                if isinstance(part, ast.Assign):
                    self.assertIsInstance(ast.literal_eval(part.value), int)
                    self.assertNotIn(part.targets[0].id, set(methods))

    def test_handlers(self):
        errors = {node.name for node in ast.parse(source("errors.py")).body if isinstance(node, ast.ClassDef)}
        for name, tree in trees():
            for node in ast.walk(tree):
                if isinstance(node, ast.Try):
                    self.assertEqual((node.orelse, node.finalbody), ([], []), (name, node.lineno))
                    for handler in node.handlers:
                        self.assertIn(handler.type.id, errors, (name, node.lineno))

    def test_what_operators_change(self):
        """All that runs in an operator, a property or a text form changes only what it made itself."""
        made = {}
        for name, tree in trees():
            for node in ast.walk(tree):
                if isinstance(node, ast.FunctionDef):
                    made.setdefault(node.name, []).append((name, node))
        waiting = set()
        for name, node, methods in classes():
            for method in methods.values():
                decorators = [part.id for part in method.decorator_list]
                if method.name in DUNDERS - {"__init__", "__call__"} or decorators == ["property"]:
                    waiting.add(method.name)
        seen = set()
        while waiting:
            word = waiting.pop()
            seen.add(word)
            for name, node in made.get(word, []):
                self.check_changes(name, node)
                for part in ast.walk(node):
                    if isinstance(part, ast.Call):
                        called = getattr(part.func, "id", getattr(part.func, "attr", None))
                        if called in made and called not in seen and called not in METHODS:
                            waiting.add(called)

    def check_changes(self, name, function):
        own = set()
        for part in ast.walk(function):
            if isinstance(part, ast.Assign) and is_new_list(part.value):
                own |= {target.id for target in part.targets if isinstance(target, ast.Name)}
        for part in ast.walk(function):
            place = (name, function.name, getattr(part, "lineno", 0))
            if isinstance(part, ast.Attribute):
                self.assertIsInstance(part.ctx, ast.Load, place)
            if isinstance(part, ast.Subscript) and not isinstance(part.ctx, ast.Load):
                self.assertIn(getattr(part.value, "id", None), own, place)
            if isinstance(part, ast.Call) and getattr(part.func, "attr", None) in CHANGING:
                self.assertIn(getattr(part.func.value, "id", None), own, place)

    def test_raises(self):
        for name, tree in trees():
            for node in ast.walk(tree):
                if isinstance(node, ast.Raise):
                    self.assertIsInstance(node.exc, ast.Call, (name, node.lineno))
                    self.assertIsInstance(node.exc.func, ast.Name, (name, node.lineno))


if __name__ == "__main__":
    unittest.main()
