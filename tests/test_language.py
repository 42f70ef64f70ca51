"""The rules of the language subset that can be read off the code of the package."""

import ast
import builtins
import pathlib
import re
import unittest

PACKAGE = pathlib.Path(__file__).resolve().parent.parent / "firsthand"
FILES = sorted(PACKAGE.glob("*.py"))
TREES = {path.stem: ast.parse(path.read_text()) for path in FILES}

# Nothing of heapq: beside it, what `__eq__` calls could not even change the lists that it made itself.
LIBRARY = {"math": {"gcd", "lcm", "isqrt", "comb", "perm", "factorial"}}
BUILTINS = set("""len range enumerate zip min max sum abs sorted reversed int str bool list tuple dict set isinstance
    ord repr any all divmod Exception ValueError TypeError KeyError IndexError LookupError ZeroDivisionError
    ArithmeticError OverflowError RuntimeError NotImplementedError AttributeError NotImplemented property classmethod
    staticmethod super map""".split())
VALUE_METHODS = set("""append clear copy count endswith extend find get index insert isalnum isalpha isdigit islower
    isspace isupper items join keys ljust lower lstrip partition pop remove replace reverse rfind rjust rpartition
    rsplit rstrip setdefault split splitlines startswith strip update upper values zfill bit_length add discard""".split())
DUNDERS = set("""__init__ __eq__ __repr__ __str__ __len__ __enter__ __exit__ __call__ __iter__ __or__ __and__ __sub__
    __add__ __rshift__ __invert__ __contains__""".split())
FREE_DUNDERS = {"__init__", "__len__", "__enter__", "__exit__", "__call__", "__iter__", "__repr__", "__str__"}
WORDS = set("""type typing typing_extensions enum Enum Flag Generic Protocol ABC namedtuple NamedTuple TypedDict
    TYPE_CHECKING abstractmethod dataclass overload contextmanager""".split())
UNUSED = set("""register mro elements open input law version_info with_traceback add_note attrgetter breakpoint builtins
    compile copyright credits delattr dir eval exec exit gc globals help id importlib license locals methodcaller os quit
    vars""".split())
PLAIN = re.compile(r"_?[A-Za-z][A-Za-z0-9_]*|_|__[a-z]+__")
CHANGES = {"append", "pop", "extend", "insert", "remove", "update", "clear", "setdefault", "add", "discard", "reverse"}


def nodes(*kinds):
    """All nodes of these kinds with the names of their files."""
    return [(stem, node) for stem, tree in TREES.items() for node in ast.walk(tree) if isinstance(node, kinds)]


def functions():
    return nodes(ast.FunctionDef)


def own_generators():
    return {f.name for _, f in functions() if any(isinstance(part, (ast.Yield, ast.YieldFrom)) for part in ast.walk(f))}


def base_name(node):
    """The name whose list or dict, or an item of it, is changed by the node, or None."""
    if isinstance(node, ast.Call) and isinstance(node.func, ast.Attribute) and node.func.attr in CHANGES:
        base = node.func.value
    elif isinstance(node, ast.Subscript) and isinstance(node.ctx, (ast.Store, ast.Del)):
        base = node.value
    else:
        return None
    while isinstance(base, (ast.Subscript, ast.Attribute, ast.Call)):
        base = base.func if isinstance(base, ast.Call) else base.value
    return getattr(base, "id", None)


def is_inside(node):
    """Whether the node changes an item of an item of a name."""
    if isinstance(node, ast.Call) and isinstance(node.func, ast.Attribute) and node.func.attr in CHANGES - {"setdefault"}:
        return isinstance(node.func.value, (ast.Subscript, ast.Call))
    return isinstance(node, ast.Subscript) and isinstance(node.ctx, (ast.Store, ast.Del)) and isinstance(node.value, ast.Subscript)


def where(stem, node):
    return f"{stem}.py:{node.lineno}"


def bound_names(tree):
    """The names that functions bind, and parameters."""
    for node in ast.walk(tree):
        if isinstance(node, ast.arg):
            yield node, node.arg
        elif isinstance(node, ast.Name) and isinstance(node.ctx, ast.Store):
            yield node, node.id
        elif isinstance(node, (ast.FunctionDef, ast.ClassDef)):
            yield node, node.name


def strings(tree):
    """The string literals that are no docstrings."""
    docs = set()
    for node in ast.walk(tree):
        if isinstance(node, (ast.Module, ast.ClassDef, ast.FunctionDef)) and node.body:
            first = node.body[0]
            if isinstance(first, ast.Expr) and isinstance(first.value, ast.Constant):
                docs.add(first.value)
    return [node for node in ast.walk(tree) if isinstance(node, ast.Constant) and isinstance(node.value, str) and node not in docs]


class FilesTest(unittest.TestCase):
    def test_only_python_files(self):
        found = [path for path in PACKAGE.iterdir() if path.name != "__pycache__"]
        self.assertEqual(sorted(found), FILES)
        self.assertIn(PACKAGE / "__init__.py", FILES)
        self.assertLessEqual(len(FILES), 100)
        for path in FILES:
            self.assertRegex(path.stem, r"^(__init__|[a-z][a-z0-9_]*)$")
            self.assertNotIn(path.stem, dir(builtins))

    def test_sizes_and_characters(self):
        for path in FILES:
            lines = path.read_text(encoding="utf-8").split("\n")
            self.assertLessEqual(len(lines), 399, path)
            for number, line in enumerate(lines, 1):
                self.assertLessEqual(len(line), 120, f"{path}:{number}")
                self.assertTrue(all(" " <= sign <= "~" for sign in line), f"{path}:{number}")
                self.assertNotRegex(line, r"_wall|_WallAttr", f"{path}:{number}")
        for stem, function in functions():
            first = min([function.lineno] + [part.lineno for part in function.decorator_list])
            self.assertLessEqual(function.end_lineno - first + 1, 40, where(stem, function))

    def test_module_level(self):
        for stem, tree in TREES.items():
            for at, node in enumerate(tree.body):
                doc = at == 0 and isinstance(node, ast.Expr) and isinstance(node.value, ast.Constant)
                plain = isinstance(node, ast.Assign) and len(node.targets) == 1 and isinstance(node.targets[0], ast.Name)
                kinds = (ast.ImportFrom, ast.FunctionDef, ast.ClassDef)
                self.assertTrue(doc or plain or isinstance(node, kinds), where(stem, node))

    def test_imports(self):
        reads = {}
        for stem, node in nodes(ast.Import, ast.ImportFrom):
            self.assertIsInstance(node, ast.ImportFrom, where(stem, node))
            self.assertIn(node, TREES[stem].body)
            self.assertEqual((node.level, [part.asname for part in node.names]), (0, [None] * len(node.names)))
            names = [part.name for part in node.names]
            if node.module in LIBRARY:
                self.assertLessEqual(set(names), LIBRARY[node.module])
                continue
            head, _, other = node.module.partition(".")
            self.assertEqual(head, "firsthand")
            defined = {name for part in TREES[other].body for _, name in bound_names(part)}
            self.assertLessEqual(set(names), defined, where(stem, node))
            self.assertFalse(set(names) & {name for part in TREES[other].body if isinstance(part, ast.ImportFrom)
                                           for name in [one.name for one in part.names]}, where(stem, node))
            reads.setdefault(stem, set()).add(other)
        done = set()
        while len(done) < len(TREES):
            ready = {stem for stem in TREES if stem not in done and reads.get(stem, set()) <= done}
            self.assertTrue(ready, "a ring of imports")
            done |= ready


class NamesTest(unittest.TestCase):
    def test_names(self):
        for stem, tree in TREES.items():
            imports = {one.name for part in tree.body if isinstance(part, ast.ImportFrom) for one in part.names}
            classes = {part.name for part in tree.body if isinstance(part, ast.ClassDef)}
            methods = {part for one in ast.walk(tree) if isinstance(one, ast.ClassDef) for part in one.body}
            for node, name in bound_names(tree):
                self.assertRegex(name, f"^({PLAIN.pattern})$", where(stem, node))
                if node not in methods:
                    self.assertNotIn(name, dir(builtins), where(stem, node))
                self.assertNotIn(name, UNUSED, where(stem, node))
                if not isinstance(node, ast.ClassDef) and node not in methods:
                    self.assertNotIn(name, imports | classes, where(stem, node))

    def test_bound_once_at_module_level(self):
        for stem, tree in TREES.items():
            found = []
            for part in tree.body:
                if isinstance(part, ast.ImportFrom):
                    found += [one.name for one in part.names]
                elif isinstance(part, (ast.FunctionDef, ast.ClassDef)):
                    found.append(part.name)
                elif isinstance(part, ast.Assign):
                    found.append(part.targets[0].id)
            self.assertEqual(len(found), len(set(found)), stem)

    def test_underscore_is_not_read(self):
        for stem, node in nodes(ast.Name):
            self.assertFalse(node.id == "_" and isinstance(node.ctx, ast.Load), where(stem, node))

    def test_words(self):
        for stem, tree in TREES.items():
            for node in ast.walk(tree):
                for field in ("id", "attr", "arg", "name"):
                    self.assertNotIn(getattr(node, field, None), WORDS, stem)
            for node in strings(tree):
                self.assertNotIn("%", node.value, where(stem, node))
                self.assertFalse(set(re.findall(r"\w+", node.value)) & WORDS, where(stem, node))

    def test_methods_and_attributes(self):
        own = {node for _, cls in nodes(ast.ClassDef) for node in cls.body if isinstance(node, ast.FunctionDef)}
        names = {node.name for node in own}
        builtin = {name for kind in (str, int, list, dict, set, bytes, tuple) for name in dir(kind)}
        self.assertFalse({name for name in names if not name.startswith("__")} & (builtin - VALUE_METHODS))
        stored = {node.attr for _, node in nodes(ast.Attribute) if isinstance(node.ctx, ast.Store)}
        self.assertFalse(stored & (builtin - {"count", "index"}))
        self.assertFalse(stored & names)
        for stem, node in nodes(ast.Attribute):
            known = stored | names | VALUE_METHODS
            self.assertIn(node.attr, known, where(stem, node))
        generators = own_generators()
        self.assertEqual(len([f for _, f in functions() if f.name in generators]), len(generators))
        self.assertFalse(generators & VALUE_METHODS)

    def test_decorators_and_double_underscores(self):
        for stem, node in functions():
            for part in node.decorator_list:
                self.assertIsInstance(part, ast.Name, where(stem, node))
                self.assertIn(part.id, {"property", "classmethod", "staticmethod"})
            self.assertLessEqual(len(node.decorator_list), 1)
            if node.name.startswith("__"):
                self.assertIn(node.name, DUNDERS, where(stem, node))
        for stem, node in nodes(ast.ClassDef):
            self.assertFalse(node.decorator_list)
            self.assertLessEqual(len(node.bases), 1)


class StatementsTest(unittest.TestCase):
    def test_statements_that_are_not_used(self):
        kinds = (ast.AsyncFunctionDef, ast.AsyncFor, ast.AsyncWith, ast.Await, ast.Global, ast.AnnAssign, ast.SetComp,
                 ast.GeneratorExp, ast.Set, ast.Div, ast.MatMult, ast.Pow, ast.YieldFrom, ast.Nonlocal, ast.Match)
        for stem, node in nodes(*kinds):
            self.fail(where(stem, node) if hasattr(node, "lineno") else stem)

    def test_no_floats_and_no_annotations(self):
        for stem, node in nodes(ast.Constant):
            self.assertNotIsInstance(node.value, (float, complex), where(stem, node))
        for stem, node in functions():
            self.assertIsNone(node.returns)
            self.assertFalse([arg for arg in ast.walk(node.args) if isinstance(arg, ast.arg) and arg.annotation])

    def test_builtins(self):
        for stem, tree in TREES.items():
            for node in ast.walk(tree):
                if isinstance(node, ast.Name) and node.id in dir(builtins):
                    self.assertIn(node.id, BUILTINS | {"iter"}, where(stem, node))

    def test_iter_only_in_own_iteration(self):
        for stem, node in nodes(ast.Call):
            if isinstance(node.func, ast.Name) and node.func.id == "iter":
                self.assertIsInstance(node.args[0], ast.Attribute, where(stem, node))

    def test_is_with_constants(self):
        for stem, node in nodes(ast.Compare):
            for sign, side in zip(node.ops, node.comparators):
                if isinstance(sign, (ast.Is, ast.IsNot)):
                    self.assertIn(getattr(side, "value", 0), (None, True, False), where(stem, node))

    def test_errors(self):
        own = {node.name for node in TREES["errors"].body if isinstance(node, ast.ClassDef)}
        for stem, node in nodes(ast.Raise):
            self.assertIsInstance(node.exc, ast.Call, where(stem, node))
            self.assertIn(node.exc.func.id, own, where(stem, node))
            self.assertFalse(node.exc.keywords)
        for stem, node in nodes(ast.ExceptHandler):
            for part in node.type.elts if isinstance(node.type, ast.Tuple) else [node.type]:
                self.assertIsInstance(part, ast.Name, where(stem, node))
                self.assertIn(part.id, own, where(stem, node))

    def test_views_and_generators_are_iterated_at_once(self):
        generators = own_generators()
        lazy = {"zip", "enumerate", "reversed", "range", "map"} | generators
        for stem, tree in TREES.items():
            allowed = set()
            for node in ast.walk(tree):
                if isinstance(node, (ast.For, ast.comprehension)):
                    allowed.add(node.iter)
                elif isinstance(node, ast.Call):
                    plain = isinstance(node.func, ast.Name) and node.func.id in ("list", "tuple", "dict", "enumerate", "reversed", "zip")
                    if plain or isinstance(node.func, ast.Attribute) and node.func.attr == "join":
                        allowed.update(node.args)
                elif isinstance(node, ast.Compare):
                    allowed.update(side for side in node.comparators if isinstance(side, ast.Call) and getattr(side.func, "id", "") == "range")
            for node in ast.walk(tree):
                if isinstance(node, ast.Call):
                    word = getattr(node.func, "id", getattr(node.func, "attr", None))
                    if word in lazy or word in ("keys", "values", "items"):
                        self.assertIn(node, allowed, where(stem, node))

    def test_what_a_loop_goes_over_is_not_changed_in_it(self):
        for stem, loop in nodes(ast.For):
            over = {node.id for node in ast.walk(loop.iter) if isinstance(node, ast.Name)}
            for node in ast.walk(loop):
                if node in ast.walk(loop.iter):
                    continue
                if isinstance(node, ast.Call) and isinstance(node.func, ast.Attribute) and node.func.attr in CHANGES:
                    base = node.func.value
                elif isinstance(node, ast.Subscript) and isinstance(node.ctx, (ast.Store, ast.Del)):
                    base = node.value
                else:
                    continue
                while isinstance(base, (ast.Subscript, ast.Attribute, ast.Call)):
                    base = base.func if isinstance(base, ast.Call) else base.value
                self.assertNotIn(getattr(base, "id", None), over, where(stem, node))

    def test_what_a_loop_goes_over_has_no_other_name_that_is_changed_in_it(self):
        for stem, function in functions():
            same = {}
            for node in ast.walk(function):
                if isinstance(node, ast.Assign) and isinstance(node.value, ast.Name):
                    for target in node.targets:
                        if isinstance(target, ast.Name):
                            names = same.get(target.id, {target.id}) | same.get(node.value.id, {node.value.id})
                            same.update({name: names for name in names})
            for loop in [node for node in ast.walk(function) if isinstance(node, ast.For)]:
                over = {node.id for node in ast.walk(loop.iter) if isinstance(node, ast.Name)}
                if isinstance(loop.iter, ast.Call) and getattr(loop.iter.func, "id", "") in ("list", "sorted"):
                    continue
                changed = {base_name(node) for part in loop.body for node in ast.walk(part)} - {None}
                for name in over:
                    self.assertFalse(same.get(name, {name}) & changed, where(stem, loop))

    def test_calls_with_stars(self):
        for stem, node in nodes(ast.Call):
            self.assertFalse([part for part in node.args if isinstance(part, ast.Starred)], where(stem, node))
            self.assertFalse([part for part in node.keywords if part.arg is None], where(stem, node))

    def test_lists_in_functions_over_many(self):
        for stem, node in nodes(ast.Call):
            if isinstance(node.func, ast.Name) and node.func.id in ("any", "all", "sum", "sorted"):
                wrong = isinstance(node.args[0], ast.Call) and node.args[0].func.id in own_generators()
                self.assertFalse(wrong, where(stem, node))


class OperatorsTest(unittest.TestCase):
    """What operators and properties run changes only what it created itself."""

    FRESH = {"list", "dict", "set", "sorted"}

    def reached(self):
        """The functions and methods that operators and properties run, by their names."""
        in_classes = {part for _, node in nodes(ast.ClassDef) for part in node.body}
        by_name = {}
        methods = {}
        for stem, node in functions():
            (methods if node in in_classes else by_name).setdefault(node.name, []).append((stem, node))
        inits = {node.name: [(stem, part) for part in node.body if getattr(part, "name", "") == "__init__"]
                 for stem, node in nodes(ast.ClassDef)}
        work = []
        for stem, node in functions():
            dunder = node.name.startswith("__") and node.name not in FREE_DUNDERS
            if dunder or [part for part in node.decorator_list if part.id == "property"]:
                work.append((stem, node))
        found = {}
        while work:
            stem, node = work.pop()
            if node in found:
                continue
            found[node] = stem
            own = {name for _, name in bound_names(node)} - {node.name}
            for part in ast.walk(node):
                if isinstance(part, ast.Name) and part.id not in own:
                    work.extend(by_name.get(part.id, []) + inits.get(part.id, []))
                elif isinstance(part, ast.Attribute):
                    work.extend(methods.get(part.attr, []))
        return found

    def is_fresh(self, value):
        kinds = (ast.List, ast.Dict, ast.ListComp, ast.DictComp, ast.Set)
        if isinstance(value, kinds):
            return True
        if isinstance(value, ast.Call):
            return isinstance(value.func, ast.Name) and value.func.id in self.FRESH
        if isinstance(value, ast.BinOp) and isinstance(value.op, ast.Mult):
            return isinstance(value.left, ast.List)
        return isinstance(value, ast.BinOp) and self.is_fresh(value.left) and self.is_fresh(value.right)

    def test_changes(self):
        reached = self.reached()
        self.assertIn("determined", {node.name for node in reached})
        for function, stem in reached.items():
            given = {}
            for node in ast.walk(function):
                if isinstance(node, ast.Assign):
                    for target in node.targets:
                        for name in ast.walk(target):
                            if isinstance(name, ast.Name) and isinstance(name.ctx, ast.Store):
                                given.setdefault(name.id, []).append(node.value if target is name else None)
                elif isinstance(node, (ast.For, ast.comprehension)):
                    for name in ast.walk(node.target):
                        if isinstance(name, ast.Name):
                            given.setdefault(name.id, []).append(None)
                elif isinstance(node, ast.arg):
                    given.setdefault(node.arg, []).append(None)
                self.assertNotIsInstance(node, (ast.Yield, ast.Lambda), where(stem, function))
                if isinstance(node, ast.AugAssign):
                    self.assertIsInstance(node.target, ast.Name, where(stem, node))
                    self.assertIsInstance(node.value, ast.Constant, where(stem, node))
            for node in ast.walk(function):
                self.check_change(stem, function, node, given)

    def test_items_of_items(self):
        """A list whose items' items are changed is only indexed, iterated, measured, copied or returned."""
        for function, stem in self.reached().items():
            names = {base_name(node) for node in ast.walk(function) if is_inside(node)} - {None, "self"}
            free = set()
            for node in ast.walk(function):
                if isinstance(node, ast.Subscript):
                    free.add(node.value)
                elif isinstance(node, (ast.For, ast.comprehension)):
                    free.add(node.iter)
                elif isinstance(node, ast.Return):
                    free.add(node.value)
                elif isinstance(node, ast.Attribute) and node.attr in ("setdefault", "get", "values", "items", "append"):
                    free.add(node.value)
                elif isinstance(node, ast.Call) and getattr(node.func, "id", "") in ("len", "list", "enumerate"):
                    free.update(node.args)
                elif isinstance(node, ast.Compare):
                    free.update(node.comparators)
            for node in ast.walk(function):
                if isinstance(node, ast.Name) and isinstance(node.ctx, ast.Load) and node.id in names:
                    self.assertIn(node, free, where(stem, node))

    def test_no_call_of_what_is_stored(self):
        """A name that a class stores as an attribute is not called, neither as a method of builtin values."""
        stored = {node.attr for _, node in nodes(ast.Attribute) if isinstance(node.ctx, ast.Store)}
        self.assertLessEqual({"index", "count", "name"}, stored)
        for stem, node in nodes(ast.Call):
            if isinstance(node.func, ast.Attribute):
                self.assertNotIn(node.func.attr, stored, where(stem, node))

    def test_properties_and_static_methods_have_names_of_their_own(self):
        stored = {node.attr for _, node in nodes(ast.Attribute) if isinstance(node.ctx, ast.Store)}
        plain, marked = [], []
        for stem, node in nodes(ast.ClassDef):
            for part in node.body:
                if isinstance(part, ast.FunctionDef):
                    (marked if part.decorator_list else plain).append(part.name)
        self.assertIn("atoms", marked)
        self.assertFalse(set(marked) & (set(plain) | stored | VALUE_METHODS))

    def check_change(self, stem, function, node, given):
        if isinstance(node, ast.Call) and isinstance(node.func, ast.Attribute) and node.func.attr in CHANGES:
            base = node.func.value
        elif isinstance(node, ast.Subscript) and isinstance(node.ctx, (ast.Store, ast.Del)):
            base = node.value
        elif isinstance(node, ast.Attribute) and isinstance(node.ctx, ast.Store):
            made = function.name == "__init__" or isinstance(given[node.value.id][0], ast.Call)
            self.assertTrue(made, where(stem, node))
            return
        else:
            return
        while isinstance(base, (ast.Subscript, ast.Call, ast.Attribute)):
            base = base.func if isinstance(base, ast.Call) else base.value
        values = given[base.id]
        self.assertTrue(all(value is not None and self.is_fresh(value) for value in values), where(stem, node))


if __name__ == "__main__":
    unittest.main()
