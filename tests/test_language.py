"""The rules of the subset of Python that can be seen in the code itself, rule by rule."""

import ast
import builtins
import pathlib
import re
import unittest

PACKAGE = pathlib.Path(__file__).resolve().parent.parent / "partedlanes"
FILES = sorted(path for path in PACKAGE.iterdir() if path.name != "__pycache__")
TREES = {path: ast.parse(path.read_text()) for path in FILES}
NODES = [(path, node) for path, tree in TREES.items() for node in ast.walk(tree)]

BUILTINS = set(
    "len range enumerate zip min max sum abs sorted reversed int str bool bytes list tuple dict set frozenset "
    "isinstance ord repr any all divmod iter next map Exception ValueError TypeError KeyError IndexError LookupError "
    "ZeroDivisionError ArithmeticError OverflowError RuntimeError NotImplementedError AttributeError StopIteration "
    "NotImplemented staticmethod classmethod property super".split()
)
METHODS = set(
    "append clear copy count endswith extend find get index insert isalnum isalpha isdigit islower isspace isupper "
    "items join keys ljust lower lstrip partition pop remove replace reverse rfind rjust rpartition rsplit rstrip "
    "setdefault split splitlines startswith strip update upper values zfill bit_length add discard".split()
)
DOUBLE = set(
    "__init__ __eq__ __repr__ __str__ __len__ __enter__ __exit__ __call__ __iter__ __contains__ __getitem__ "
    "__setitem__ __add__ __radd__ __mul__ __rmul__".split()
)
BARRED_NAMES = set(
    "register mro elements open input law version_info with_traceback add_note attrgetter breakpoint builtins compile "
    "copyright credits delattr dir eval exec exit gc getattr globals hasattr help id importlib license locals "
    "methodcaller os quit setattr super type vars sys".split()
)
BARRED_WORDS = re.compile(
    r"\b(type|typing|typing_extensions|enum|Enum|IntEnum|StrEnum|Flag|IntFlag|Generic|Protocol|ABC|ABCMeta|"
    r"namedtuple|NamedTuple|TypedDict|TYPE_CHECKING|abstractmethod)\b"
)
BARRED_EVERYWHERE = ("dataclass", "overload", "contextmanager", "_wall", "_WallAttr", "(type)", "Meta", "metaclass=")
BARRED_NODES = (
    ast.Global, ast.AsyncFor, ast.AsyncWith, ast.AsyncFunctionDef, ast.Await, ast.Import, ast.AnnAssign, ast.Div,
    ast.NamedExpr, ast.GeneratorExp, ast.Yield, ast.YieldFrom, ast.MatMult,
)
CHANGING = set("append clear extend insert pop remove reverse setdefault update sort add discard".split())
LIBRARY = {"heapq", "math", "itertools"}


def functions():
    """All functions of the package with their files."""
    return [(path, node) for path, node in NODES if isinstance(node, ast.FunctionDef)]


def classes():
    """All classes of the package with their files."""
    return [(path, node) for path, node in NODES if isinstance(node, ast.ClassDef)]


def bound_names(tree):
    """All names that code binds, with the lines."""
    for node in ast.walk(tree):
        if isinstance(node, (ast.FunctionDef, ast.ClassDef)):
            yield node.name, node.lineno
        elif isinstance(node, ast.arg):
            yield node.arg, node.lineno
        elif isinstance(node, ast.Name) and not isinstance(node.ctx, ast.Load):
            yield node.id, node.lineno
        elif isinstance(node, ast.alias):
            yield node.asname or node.name, node.lineno
        elif isinstance(node, ast.ExceptHandler) and node.name:
            yield node.name, node.lineno


class TestLanguage(unittest.TestCase):
    def check(self, rule, found):
        self.assertEqual([(path.name, line, what) for path, line, what in found], [], rule)

    def test_files(self):
        for path in FILES:
            self.assertTrue(path.is_file() and re.fullmatch(r"[a-z0-9_]+\.py", path.name), path)
            text = path.read_text()
            self.assertTrue(all(sign == "\n" or " " <= sign <= "~" for sign in text), path)
            lines = text.split("\n")
            self.assertLessEqual(len(lines), 399, path)
            self.assertLessEqual(max(map(len, lines)), 120, path)

    def test_functions_are_small(self):
        self.check("L10", [(p, f.lineno, f.name) for p, f in functions() if f.end_lineno - f.lineno >= 40])

    def test_imports(self):
        found = []
        imported = {}
        for path, node in NODES:
            if isinstance(node, ast.ImportFrom):
                home = path.parent.parent / (node.module.replace(".", "/") + ".py")
                own = node.module.startswith("partedlanes.") and home.exists()
                if node.level or not (own or node.module in LIBRARY) or any(name.asname for name in node.names):
                    found.append((path, node.lineno, node.module))
                if own:
                    imported.setdefault(path, []).append(home)
                    defined = [name for child in TREES[home].body for name, _ in top_names(child)]
                    found += [(path, node.lineno, n.name) for n in node.names if n.name not in defined]
        self.check("L2, L16", found)
        for path in imported:
            reached, left = set(), list(imported[path])
            while left:
                home = left.pop()
                if home not in reached:
                    reached.add(home)
                    left += imported.get(home, [])
            self.assertNotIn(path, reached, "L16: files that import from each other")

    def test_imports_are_used(self):
        found = []
        for path, tree in TREES.items():
            used = {node.id for node in ast.walk(tree) if isinstance(node, ast.Name)}
            for node in tree.body:
                if isinstance(node, ast.ImportFrom):
                    found += [(path, node.lineno, name.name) for name in node.names if name.name not in used]
        self.check("imports that are not used", found)

    def test_module_level(self):
        allowed = (ast.ImportFrom, ast.FunctionDef, ast.ClassDef, ast.Assign, ast.Expr)
        found = []
        for path, tree in TREES.items():
            names = []
            for place, node in enumerate(tree.body):
                names += top_names(node)
                if not isinstance(node, allowed) or (isinstance(node, ast.Expr) and place):
                    found.append((path, node.lineno, ast.dump(node)))
                if isinstance(node, ast.Assign):
                    inner = [n for n in ast.walk(node.value) if isinstance(n, (ast.List, ast.Dict)) and n != node.value]
                    inner += [n for n in ast.walk(node.value) if isinstance(n, (ast.Call, ast.Set, ast.ListComp))]
                    found += [(path, node.lineno, ast.dump(n)) for n in inner]
            words = [name for name, _ in names]
            found += [(path, line, name) for name, line in names if words.count(name) > 1]
        self.check("L3, L15", found)

    def test_statements_and_expressions(self):
        self.check("L6, L7", [(p, n.lineno, n) for p, n in NODES if isinstance(n, BARRED_NODES) and hasattr(n, "lineno")])
        self.check("L7", [(p, n.lineno, n) for p, n in NODES if isinstance(n, ast.BinOp) and isinstance(n.op, ast.Div)])

    def test_no_star_between_the_brackets_of_an_index(self):
        self.check("L7", stars_in_indexes(TREES))
        for code in ("xs[(*a, 1)]", "xs[*a]", "xs[f(*a)]", "xs[a[(*b, 1)]] = 2", "{k: xs[(k, *a)] for k in xs}"):
            self.assertEqual(len(stars_in_indexes({PACKAGE: ast.parse(code)})) > 0, True, code)
        for code in ("xs[a, 1]", "(*a, xs[1])", "f(*xs[1:])", "xs[a * 2]", "k = (*a, 1)\nxs[k]"):
            self.assertEqual(stars_in_indexes({PACKAGE: ast.parse(code)}), [], code)

    def test_decorators_and_bases(self):
        found = []
        for path, node in functions():
            names = [ast.unparse(mark) for mark in node.decorator_list]
            found += [(path, node.lineno, name) for name in names if name not in ("staticmethod", "classmethod")]
        found += [(p, c.lineno, c.name) for p, c in classes() if c.decorator_list or c.keywords]
        self.check("L4, L5", found)

    def test_double_underscore_names(self):
        found = []
        for path, tree in TREES.items():
            found += [(path, line, name) for name, line in bound_names(tree)
                      if name.startswith("__") and name not in DOUBLE]
        for path, node in NODES:
            if isinstance(node, ast.Attribute) and node.attr.startswith("__") and node.attr != "__init__":
                found.append((path, node.lineno, node.attr))
        self.check("L5, L8, L12", found)

    def test_builtins(self):
        found = []
        for path, node in NODES:
            if isinstance(node, ast.Name) and hasattr(builtins, node.id) and node.id not in BUILTINS:
                found.append((path, node.lineno, node.id))
        for path, tree in TREES.items():
            inside = {id(part) for c in ast.walk(tree) if isinstance(c, ast.ClassDef) for part in c.body}
            methods = {part.name for c in ast.walk(tree) if isinstance(c, ast.ClassDef) for part in c.body
                       if isinstance(part, ast.FunctionDef) and id(part) in inside}
            found += [(path, line, name) for name, line in bound_names(tree)
                      if (hasattr(builtins, name) or name in BARRED_NAMES) and name not in methods]
        self.check("L8, L15, L17", found)

    def test_attributes(self):
        found = []
        for path, node in NODES:
            if isinstance(node, ast.Attribute) and node.attr in ("register", "mro", "elements", "open", "input", "law",
                                                                "format", "format_map", "keys", "sort", "args"):
                found.append((path, node.lineno, node.attr))
        self.check("L8, L17, L26", found)

    def test_names_of_builtin_methods_stay_free(self):
        taken = {name for kind in (str, int, list, dict, set, bytes, tuple) for name in dir(kind) if name[:2] != "__"}
        # The document itself asks for a method of this name, which sets have, too.
        taken -= {"difference"}
        found = [(path, part.lineno, part.name) for path, node in classes() for part in node.body
                 if isinstance(part, ast.FunctionDef) and part.name in taken - METHODS]
        attributes = set("count index title find get join lower upper split strip copy add".split())
        found += [(path, node.lineno, node.attr) for path, node in NODES
                  if isinstance(node, ast.Attribute) and isinstance(node.ctx, ast.Store)
                  and node.attr in taken - attributes]
        self.check("L26", found)

    def test_names_of_files_stay_free(self):
        found = []
        for path, tree in TREES.items():
            top = {name for node in tree.body if isinstance(node, (ast.ImportFrom, ast.ClassDef))
                   for name, _ in top_names(node)}
            for node in ast.walk(tree):
                if isinstance(node, ast.arg) and node.arg in top:
                    found.append((path, node.lineno, node.arg))
                if isinstance(node, ast.Name) and not isinstance(node.ctx, ast.Load) and node.id in top:
                    found.append((path, node.lineno, node.id))
        self.check("L15", found)

    def test_words(self):
        for path in FILES:
            text = path.read_text()
            for word in BARRED_EVERYWHERE:
                self.assertNotIn(word, text, path)
            code = ast.unparse(without_docstrings(ast.parse(text)))
            self.assertIsNone(BARRED_WORDS.search(code), path)

    def test_strings(self):
        found = []
        for path, node in NODES:
            if isinstance(node, ast.Constant) and isinstance(node.value, (float, complex, bytes)):
                found.append((path, node.lineno, node.value))
            if isinstance(node, ast.Constant) and isinstance(node.value, str):
                text = node.value
                if "%" in text or text.endswith(("._", ".__")) or (text.startswith("__") and text.endswith("__")):
                    found.append((path, node.lineno, text))
        self.check("L7, L27", found)

    def test_is_only_with_none_true_and_false(self):
        found = []
        for path, node in NODES:
            if isinstance(node, ast.Compare) and any(isinstance(op, (ast.Is, ast.IsNot)) for op in node.ops):
                sides = [node.left, *node.comparators]
                if not any(isinstance(s, ast.Constant) and (s.value is None or isinstance(s.value, bool)) for s in sides):
                    found.append((path, node.lineno, ast.unparse(node)))
        self.check("L20", found)

    def test_methods_are_called_where_they_stand(self):
        own = {part.name for _, c in classes() for part in c.body if isinstance(part, ast.FunctionDef)}
        found = []
        for path, node in NODES:
            if isinstance(node, ast.Call) and isinstance(node.func, ast.Attribute):
                if node.func.attr not in own | METHODS:
                    found.append((path, node.lineno, node.func.attr))
                if node.func.attr in METHODS and node.keywords:
                    found.append((path, node.lineno, node.func.attr))
        self.check("L25", found)

    def test_sets_stand_where_they_may(self):
        found = []
        for path, tree in TREES.items():
            allowed = set()
            for node in ast.walk(tree):
                if isinstance(node, ast.Call) and isinstance(node.func, ast.Name) and node.func.id in ("sorted", "len"):
                    allowed |= {id(part) for part in node.args}
            for node in ast.walk(tree):
                made = isinstance(node, ast.Call) and isinstance(node.func, ast.Name) and node.func.id == "set"
                if (made or isinstance(node, (ast.Set, ast.SetComp))) and id(node) not in allowed:
                    found.append((path, node.lineno, ast.unparse(node)))
        self.check("L24", found)

    def test_what_operators_give_is_plain(self):
        for path, node in functions():
            returns = [part.value for part in ast.walk(node) if isinstance(part, ast.Return)]
            if node.name == "__len__":
                self.assertTrue(all(ast.unparse(part).startswith("len(") for part in returns), path)
            if node.name == "__init__":
                self.assertEqual(returns, [], path)
            if node.name == "__eq__":
                self.assertEqual(len(node.body), 1, path)
            if node.name in DOUBLE - {"__init__", "__setitem__", "__exit__", "__enter__", "__call__"}:
                changes = [part for part in ast.walk(node) if isinstance(part, (ast.AugAssign, ast.Delete))]
                changes += [part for part in ast.walk(node) if isinstance(part, (ast.Attribute, ast.Subscript))
                            and not isinstance(part.ctx, ast.Load)]
                self.assertEqual(changes, [], path)

    def test_operators_and_all_that_they_call_change_nothing(self):
        named = {}
        for path, node in functions():
            named.setdefault(node.name, []).append((path, node))
        still = DOUBLE - {"__init__", "__setitem__", "__enter__", "__exit__", "__call__", "__iter__"}
        left = [entry for name in still for entry in named.get(name, [])]
        reached = []
        while left:
            path, node = left.pop()
            if node not in reached:
                reached.append(node)
                self.assertEqual(changes_of(node), [], f"L5: {path.name}, {node.name}")
                # Methods are told by their names alone: whichever class has one, it must not change anything.
                called = [part.func for part in ast.walk(node) if isinstance(part, ast.Call)]
                names = [part.attr if isinstance(part, ast.Attribute) else getattr(part, "id", "") for part in called]
                left += [entry for name in names for entry in named.get(name, [])]
        self.assertGreater(len(reached), 40)

    def test_calls_with_stars(self):
        found = []
        for path, node in NODES:
            if isinstance(node, ast.Call):
                stars = [part.value for part in node.args if isinstance(part, ast.Starred)]
                found += [(path, node.lineno, ast.unparse(part)) for part in stars
                          if not isinstance(part, (ast.Name, ast.List, ast.Tuple))
                          and not (isinstance(part, ast.Attribute) and isinstance(part.value, ast.Name))]
        self.check("L7", found)

    def test_names_of_classes_begin_with_letters(self):
        self.check("L12", [(path, node.lineno, node.name) for path, node in classes() if not node.name[0].isupper()])

    def test_no_name_is_a_method_and_an_attribute_of_one_class(self):
        for path, node in classes():
            methods = {part.name for part in node.body if isinstance(part, ast.FunctionDef)}
            stored = {part.attr for part in ast.walk(node) if isinstance(part, ast.Attribute)
                      and isinstance(part.ctx, ast.Store)}
            self.assertEqual(methods & stored, set(), path)
            self.assertEqual(len(methods), len([p for p in node.body if isinstance(p, ast.FunctionDef)]), path)

    def test_names_of_methods_are_no_names_of_attributes(self):
        methods = {part.name for _, node in classes() for part in node.body if isinstance(part, ast.FunctionDef)}
        stored = {node.attr for _, node in NODES if isinstance(node, ast.Attribute) and isinstance(node.ctx, ast.Store)}
        self.assertEqual(methods & stored, set(), "L18")

    def test_what_is_reversed_is_plain(self):
        found = []
        for path, node in NODES:
            if isinstance(node, ast.Call) and ast.unparse(node.func) == "reversed":
                inner = node.args[0]
                made = isinstance(inner, ast.Call) and ast.unparse(inner.func) in ("list", "tuple", "sorted", "range")
                if not made:
                    found.append((path, node.lineno, ast.unparse(node)))
        self.check("L5", found)

    def test_iterators_are_not_kept(self):
        found = []
        for path, node in NODES:
            if isinstance(node, (ast.Assign, ast.AugAssign, ast.Return)) and node.value is not None:
                parts = [node.value]
                if isinstance(node.value, ast.IfExp):
                    parts = [node.value.body, node.value.orelse]
                names = ("zip", "enumerate", "reversed", "range", "map", "iter")
                found += [(path, node.lineno, ast.unparse(node)) for part in parts
                          if isinstance(part, ast.Call) and ast.unparse(part.func) in names]
        self.check("L23", found)

    def test_classes_that_are_indexed_refuse_to_be_gone_over(self):
        for path, node in classes():
            methods = {part.name for part in node.body if isinstance(part, ast.FunctionDef)}
            self.assertTrue("__getitem__" not in methods or "__iter__" in methods, path)


def stars_in_indexes(trees):
    """All stars that stand between the brackets of an index."""
    return [(path, part.lineno, ast.unparse(node)) for path, tree in trees.items() for node in ast.walk(tree)
            if isinstance(node, ast.Subscript) for part in ast.walk(node.slice) if isinstance(part, ast.Starred)]


def changes_of(function):
    """What a function changes, but for its own lists and numbers."""
    own = {target.id for part in ast.walk(function) if isinstance(part, ast.Assign) for target in part.targets
           if isinstance(target, ast.Name) and (isinstance(part.value, (ast.List, ast.ListComp)) or (
               isinstance(part.value, ast.Call) and ast.unparse(part.value.func) in ("list", "sorted")))}
    found = []
    for part in ast.walk(function):
        if isinstance(part, (ast.Attribute, ast.Subscript)) and not isinstance(part.ctx, ast.Load):
            found.append(ast.unparse(part))
        if isinstance(part, ast.AugAssign):
            steady = isinstance(part.op, (ast.Add, ast.Sub, ast.FloorDiv)) and isinstance(part.target, ast.Name)
            steady = steady and (isinstance(part.value, ast.Constant) or not isinstance(part.op, ast.Add))
            found += [] if steady else [ast.unparse(part)]
        if isinstance(part, ast.Call) and isinstance(part.func, ast.Attribute) and part.func.attr in CHANGING:
            if not (isinstance(part.func.value, ast.Name) and part.func.value.id in own):
                found.append(ast.unparse(part))
    return found


def top_names(node):
    """The names that a statement at module level binds, with its line."""
    if isinstance(node, (ast.FunctionDef, ast.ClassDef)):
        return [(node.name, node.lineno)]
    if isinstance(node, ast.ImportFrom):
        return [(name.name, node.lineno) for name in node.names]
    if isinstance(node, ast.Assign):
        return [(part.id, node.lineno) for part in node.targets]
    return []


def without_docstrings(tree):
    """A tree without its docstrings."""
    for node in ast.walk(tree):
        if isinstance(node, (ast.Module, ast.ClassDef, ast.FunctionDef)) and ast.get_docstring(node) is not None:
            node.body = node.body[1:] or [ast.Pass()]
    return tree


if __name__ == "__main__":
    unittest.main()
