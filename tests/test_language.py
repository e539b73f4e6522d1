"""The rules of LANGUAGE.md that can be looked up in the syntax of the files."""

import ast
import builtins
import re
import unittest
from pathlib import Path

PACKAGE = Path(__file__).resolve().parent.parent / "wholesay"
LIBRARY = {
    "heapq": {"heappush", "heappop", "heapify", "heapreplace", "heappushpop"},
    "math": {"gcd", "lcm", "isqrt", "comb", "perm", "factorial"},
    # No product and no combinations: there are objects that are iterated over and have __len__.
    "itertools": {"chain", "accumulate", "pairwise", "islice", "zip_longest"},
    "collections": {"defaultdict", "deque"},
}
BUILTINS = set(
    "len range enumerate zip min max sum abs sorted reversed int str bool list tuple dict set isinstance ord repr any "
    "all divmod pow iter next map Exception ValueError TypeError KeyError IndexError LookupError".split())
METHODS = set(
    "append clear copy count endswith extend find get index insert isalnum isalpha isdigit islower isspace isupper "
    "items join keys ljust lower lstrip partition pop remove replace reverse rfind rjust rpartition rsplit rstrip "
    "setdefault split splitlines startswith strip update upper values zfill bit_length add discard".split())
BARRED = set(
    "type typing enum Enum Flag Generic Protocol ABC namedtuple register mro elements open input law eval exec "
    "globals locals vars dir id help exit quit compile super gc os sys".split())
# Words that stand in no file but in comments and docstrings.
WORDS = set(
    "typing typing_extensions enum Enum IntEnum StrEnum Flag IntFlag Generic Protocol ABC ABCMeta namedtuple NamedTuple "
    "TypedDict TYPE_CHECKING abstractmethod type".split())
# The package does with these; LANGUAGE.md would let some more.
NODES = (
    ast.Module, ast.FunctionDef, ast.ClassDef, ast.arguments, ast.arg, ast.ImportFrom, ast.alias, ast.Expr, ast.Assign,
    ast.AugAssign, ast.For, ast.While, ast.If, ast.Return, ast.Raise, ast.Try, ast.ExceptHandler, ast.Pass, ast.Break,
    ast.Continue, ast.Delete, ast.BoolOp, ast.BinOp, ast.UnaryOp, ast.Lambda, ast.IfExp, ast.Dict, ast.ListComp,
    ast.DictComp, ast.SetComp, ast.comprehension, ast.Compare, ast.Call, ast.keyword, ast.Constant, ast.Attribute,
    ast.Subscript, ast.Slice, ast.Starred, ast.Name, ast.List, ast.Tuple, ast.expr_context, ast.boolop, ast.Add, ast.Sub, ast.Mult,
    ast.Mod, ast.Pow, ast.LShift, ast.RShift, ast.BitOr, ast.BitXor, ast.BitAnd, ast.FloorDiv, ast.unaryop, ast.cmpop)
LAZY = ("zip", "enumerate", "reversed", "range", "map")
VIEWS = ("items", "keys", "values")
# Of `list`, `zip` and the others the first argument goes over it at once.
EATERS = ("list", "tuple", "dict", "sorted", "sum", "any", "all", "enumerate", "zip")
KEYWORDS = {"sorted": ("key", "reverse"), "min": ("key", "default"), "max": ("key", "default"), "sum": ("start",),
            "enumerate": ("start",), "zip": ("strict",)}
CHANGES = ("append", "clear", "extend", "insert", "pop", "remove", "reverse", "setdefault", "update", "sort", "add",
           "discard")
HEAPS = ("heappush", "heappop", "heapify", "heapreplace", "heappushpop")
DUNDERS = ("__init__", "__eq__", "__len__", "__iter__", "__str__", "__repr__")
FREE_ATTRIBUTES = ("count", "index", "title", "find", "get", "join", "lower", "upper", "split", "strip", "copy", "add")


def files():
    return sorted(PACKAGE.rglob("*.py"))


def trees():
    return [(path, ast.parse(path.read_text())) for path in files()]


def functions(tree):
    return [node for node in ast.walk(tree) if isinstance(node, ast.FunctionDef)]


def bound_in(function):
    """The parameters and local names of a function."""
    names = [arg.arg for arg in function.args.args + function.args.kwonlyargs]
    for node in ast.walk(function):
        if isinstance(node, ast.Name) and isinstance(node.ctx, ast.Store):
            names.append(node.id)
        if isinstance(node, ast.arg):
            names.append(node.arg)
    return set(names)


class Language(unittest.TestCase):
    def test_the_folder(self):
        for path in PACKAGE.rglob("*"):
            if "__pycache__" not in path.parts:
                self.assertTrue(path.suffix == ".py" and re.fullmatch("[a-z_0-9]+", path.stem), path)

    def test_lines_and_sizes(self):
        for path, tree in trees():
            text = path.read_text()
            self.assertTrue(all(" " <= sign <= "~" or sign == "\n" for sign in text), path)
            lines = text.split("\n")
            self.assertLessEqual(len(lines), 399, path)
            self.assertTrue(all(len(line) <= 120 for line in lines), path)
            for node in functions(tree):
                self.assertLessEqual(node.end_lineno - node.lineno + 1, 40, (path, node.name))

    def test_imports(self):
        for path, tree in trees():
            for node in ast.walk(tree):
                self.assertNotIsInstance(node, ast.Import, path)
                if isinstance(node, ast.ImportFrom):
                    self.assertEqual(node.level, 0)
                    names = {alias.name for alias in node.names}
                    self.assertTrue(all(alias.asname is None for alias in node.names))
                    if node.module in LIBRARY:
                        self.assertTrue(names <= LIBRARY[node.module], path)
                        continue
                    self.assertTrue(node.module.startswith("wholesay."), path)
                    source = ast.parse((PACKAGE / (node.module.split(".")[1] + ".py")).read_text())
                    self.assertTrue(names <= defined_in(source), (path, names - defined_in(source)))

    def test_no_circles(self):
        leads = {path.stem: {node.module.split(".")[1] for node in ast.walk(tree)
                             if isinstance(node, ast.ImportFrom) and node.module not in LIBRARY}
                 for path, tree in trees()}
        while leads:
            free = [name for name, others in leads.items() if not others & set(leads)]
            self.assertTrue(free, leads)
            for name in free:
                del leads[name]

    def test_module_level(self):
        for path, tree in trees():
            names = []
            for node in tree.body:
                self.assertIsInstance(node, (ast.Expr, ast.ImportFrom, ast.FunctionDef, ast.ClassDef, ast.Assign), path)
                if isinstance(node, ast.Expr):
                    self.assertIsInstance(node.value, ast.Constant)
                elif isinstance(node, ast.ImportFrom):
                    names += [alias.name for alias in node.names]
                elif isinstance(node, ast.Assign):
                    self.assertEqual([type(target) for target in node.targets], [ast.Name])
                    names.append(node.targets[0].id)
                else:
                    names.append(node.name)
            self.assertEqual(len(names), len(set(names)), path)
            self.assertFalse(set(names) & set(dir(builtins)), path)

    def test_names(self):
        for path, tree in trees():
            fixed = {alias.name for node in tree.body if isinstance(node, ast.ImportFrom) for alias in node.names}
            fixed |= {node.name for node in tree.body if isinstance(node, ast.ClassDef)}
            for node in functions(tree):
                bound = bound_in(node)
                self.assertFalse(bound & fixed, (path, node.name))
                self.assertFalse(bound & set(dir(builtins)), (path, node.name))
                self.assertFalse(node.decorator_list)
                self.assertFalse(node.args.vararg or node.args.kwarg)
            for node in ast.walk(tree):
                for name in [getattr(node, "id", None), getattr(node, "attr", None), getattr(node, "arg", None)]:
                    self.assertNotIn(name, BARRED, path)

    def test_what_is_used(self):
        own = {item.name for _, tree in trees() for node in tree.body if isinstance(node, ast.ClassDef)
               for item in node.body if isinstance(item, ast.FunctionDef)}
        for path, tree in trees():
            known = defined_in(tree) | {alias.name for node in tree.body if isinstance(node, ast.ImportFrom)
                                        for alias in node.names}
            for node in ast.walk(tree):
                self.assertIsInstance(node, NODES, path)
                if isinstance(node, ast.Name) and node.id in dir(builtins) and node.id not in known:
                    self.assertIn(node.id, BUILTINS, path)
                if isinstance(node, ast.Call) and isinstance(node.func, ast.Attribute):
                    self.assertIn(node.func.attr, METHODS | own, path)
                if isinstance(node, ast.Constant):
                    self.assertNotIsInstance(node.value, (float, complex, bytes), path)
                if isinstance(node, ast.Constant) and isinstance(node.value, str):
                    self.assertNotIn("%", node.value, path)
                if isinstance(node, ast.BinOp) and isinstance(node.op, ast.Pow):
                    self.assertIsInstance(node.right, ast.Constant, path)
                if isinstance(node, ast.Compare):
                    for sign, other in zip(node.ops, node.comparators):
                        if isinstance(sign, (ast.Is, ast.IsNot)):
                            self.assertIn(other.value, (None, True, False))

    def test_nothing_is_left_unused(self):
        for path, tree in trees():
            used = {node.id for node in ast.walk(tree) if isinstance(node, ast.Name)}
            for node in tree.body:
                if isinstance(node, ast.ImportFrom):
                    self.assertTrue({alias.name for alias in node.names} <= used, (path, node.module))

    def test_words_in_strings(self):
        for path, tree in trees():
            texts = {id(node.body[0].value) for node in ast.walk(tree)
                     if isinstance(node, (ast.Module, ast.FunctionDef, ast.ClassDef)) and node.body
                     and isinstance(node.body[0], ast.Expr)}
            for node in ast.walk(tree):
                if isinstance(node, ast.Constant) and isinstance(node.value, str) and id(node) not in texts:
                    self.assertFalse(set(re.findall("[A-Za-z_0-9]+", node.value)) & WORDS, (path, node.value))
                    self.assertNotIn("__", node.value, path)

    def test_raised_and_caught(self):
        own = errors_of()
        for path, tree in trees():
            for node in ast.walk(tree):
                if isinstance(node, ast.Raise):
                    self.assertIn(node.exc.func.id, own, (path, node.lineno))
                if isinstance(node, ast.ExceptHandler):
                    self.assertIn(node.type.id, own, (path, node.lineno))

    def test_keywords_and_defaults(self):
        for path, tree in trees():
            for node in ast.walk(tree):
                if isinstance(node, ast.Call):
                    names = {word.arg for word in node.keywords}
                    if isinstance(node.func, ast.Name) and node.func.id in BUILTINS:
                        self.assertLessEqual(names, set(KEYWORDS.get(node.func.id, ())), (path, node.lineno))
                        if "default" in names:
                            self.assertEqual(len(node.args), 1, (path, node.lineno))
                    if isinstance(node.func, ast.Attribute) and node.func.attr in METHODS:
                        self.assertFalse(names, (path, node.lineno))
                if isinstance(node, ast.arguments):
                    for value in node.defaults + node.kw_defaults:
                        self.assertTrue(isinstance(value, (ast.Constant, ast.Tuple, ast.Name)), (path, ast.dump(node)))

    def test_classes(self):
        for path, tree in trees():
            for node in ast.walk(tree):
                if isinstance(node, ast.ClassDef):
                    names = [item.name for item in node.body if isinstance(item, ast.FunctionDef)]
                    self.assertEqual(len(names), len(set(names)), (path, node.name))
                    self.assertTrue(all(name in DUNDERS or not name.startswith("__") for name in names), path)
                    self.assertFalse(set(names) & set(attributes_of(node)), (path, node.name))

    def test_double_underscores(self):
        """L28 and L5 Iteration, as plainly as these are written here."""
        forms = {
            "__len__": "return len(self.NAME)", "__iter__": "return iter(self.NAME)",
            "__str__": "return '\\n'.join(self.NAME)", "__eq__": "return isinstance(other, CLASS) and self.NAME == other.NAME"}
        for path, tree in trees():
            for node in ast.walk(tree):
                for item in node.body if isinstance(node, ast.ClassDef) else ():
                    if isinstance(item, ast.FunctionDef) and item.name in forms:
                        self.assertEqual(len(item.body), 1, (path, item.lineno))
                        want = re.escape(forms[item.name]).replace("CLASS", node.name).replace("NAME", r"(\w+(?:\(\))?)")
                        found = re.fullmatch(want, ast.unparse(item.body[0]))
                        self.assertTrue(found, (path, item.lineno, ast.unparse(item.body[0]), want))
                        self.assertEqual(len(set(found.groups())), 1, (path, item.lineno))

    def test_methods_are_no_attributes_elsewhere(self):
        stored, methods = set(), set()
        for _, tree in trees():
            for node in ast.walk(tree):
                if isinstance(node, ast.ClassDef) and not node.bases:
                    stored |= set(attributes_of(node))
                    methods |= {item.name for item in node.body if isinstance(item, ast.FunctionDef)}
        self.assertFalse(stored & methods)

    def test_attributes(self):
        barred = {name for kind in (int, str, bytes, list, dict, set) for name in dir(kind)} - set(FREE_ATTRIBUTES)
        known, methods = set(), set()
        for _, tree in trees():
            for node in ast.walk(tree):
                if isinstance(node, ast.ClassDef):
                    known |= set(attributes_of(node))
                    methods |= {item.name for item in node.body if isinstance(item, ast.FunctionDef)}
        self.assertFalse(known & barred)
        for path, tree in trees():
            called = {id(node.func) for node in ast.walk(tree) if isinstance(node, ast.Call)}
            for node in ast.walk(tree):
                if isinstance(node, ast.Attribute):
                    fits = known if id(node) not in called else known | methods | METHODS
                    self.assertIn(node.attr, fits, (path, node.lineno))


class Iterated(unittest.TestCase):
    """L23 and L24: what is walked on the spot, what a loop may not change, where a set may stand."""

    def test_walked_on_the_spot(self):
        for path, tree in trees():
            for node, above in with_parents(tree):
                if is_lazy(node):
                    self.assertTrue(is_walked(node, above), (path, node.lineno))

    def test_the_test_itself(self):
        for text, right in (("for at in range(2): pass", True), ("rows = list(reversed(xs))", True),
                            ("rows = [x for x in zip(xs, ys)]", True), ("found = max(d.values(), default=0)", True),
                            ("found = dict(zip(xs, ys))", True), ("for at, x in enumerate(zip(xs, ys)): pass", True),
                            ("for at in reversed(range(3)): pass", True), ("found = k in d.keys()", True),
                            ("found = len(range(3))", True), ("text = ' '.join(map(str, xs))", True),
                            ("ahead.extend(reversed(xs))", False), ("rows = reversed(xs)", False),
                            ("found = set(d.keys())", False), ("found = max(range(3), range(4))", False),
                            ("found = len(zip(xs, ys))", False), ("found = f(range(3))", False),
                            ("for x in reversed(d.items()): pass", False), ("found = zip(xs, ys) == zs", False),
                            ("for x in xs + reversed(xs): pass", False), ("first, *rest = zip(xs, ys)", False),
                            ("text = sep.join(map(str, xs))", False), ("found = list(d, d.keys())", False)):
            found = [is_walked(node, above) for node, above in with_parents(ast.parse(text)) if is_lazy(node)]
            self.assertIs(bool(found) and all(found), right, text)

    def test_loops_change_nothing_that_they_walk(self):
        for path, tree in trees():
            for node in ast.walk(tree):
                self.assertFalse(changed_in_walk(node), (path, getattr(node, "lineno", 0)))

    def test_that_test_itself(self):
        for text, right in (("for x in xs: ys.append(x)", True), ("for x in xs: xs.append(x)", False),
                            ("for at, x in enumerate(xs): xs[at] = 1", False), ("for x in list(xs): xs.pop()", True),
                            ("for x in zip(xs, ys): del ys[0]", False), ("for k, x in d.items(): d[k] = x", False),
                            ("for x in a.rows: b.rows.append(x)", False), ("for x in xs: heappush(xs, x)", False),
                            ("for x in xs: xs += [x]", False), ("found = [xs.pop() for x in xs]", False),
                            ("found = [xs.pop() for x in ys]", True), ("for x in xs[1:]: xs.append(x)", True)):
            found = any(changed_in_walk(node) for node in ast.walk(ast.parse(text)))
            self.assertIs(not found, right, text)

    def test_names_in_comprehensions(self):
        for path, tree in trees():
            for node, outer in within_comprehensions(tree):
                names = {name.id for part in node.generators for name in ast.walk(part.target)
                         if isinstance(name, ast.Name)}
                self.assertFalse(names & outer - {"_"}, (path, node.lineno))

    def test_stars(self):
        for path, tree in trees():
            for node, above in with_parents(tree):
                if isinstance(node, ast.Starred):
                    self.assertIsInstance(node.value, (ast.Name, ast.Attribute), (path, node.lineno))
                    self.assertTrue(is_call(above, ("zip", "max", "min")), (path, node.lineno))

    def test_sets(self):
        for path, tree in trees():
            for node, above in with_parents(tree):
                if isinstance(node, (ast.Set, ast.SetComp)) or is_call(node, ("set", "frozenset")):
                    self.assertTrue(is_call(above, ("sorted", "len")) and not above.keywords
                                    or isinstance(above, ast.Compare) and node in above.comparators
                                    and isinstance(above.ops[-1], (ast.In, ast.NotIn)), (path, node.lineno))


COMPREHENSIONS = (ast.ListComp, ast.SetComp, ast.DictComp)


def within_comprehensions(tree):
    """The pairs of a comprehension within another one, or in a lambda or nested function, and the names around it."""
    found = []
    for function in functions(tree):
        stored = bound_in_rows(function)
        for node in ast.walk(function):
            if isinstance(node, COMPREHENSIONS + (ast.Lambda,)):
                own = {name.id for part in getattr(node, "generators", []) for name in ast.walk(part.target)
                       if isinstance(name, ast.Name)}
                found += [(each, stored | own) for each in ast.walk(node)
                          if each is not node and isinstance(each, COMPREHENSIONS)]
    return found


def bound_in_rows(function):
    """The parameters and the names that a function assigns, those of comprehensions left out."""
    inside = {id(name) for node in ast.walk(function) if isinstance(node, COMPREHENSIONS)
              for part in node.generators for name in ast.walk(part.target)}
    names = {arg.arg for arg in function.args.args}
    return names | {node.id for node in ast.walk(function)
                    if isinstance(node, ast.Name) and isinstance(node.ctx, ast.Store) and id(node) not in inside}


def errors_of():
    return defined_in(ast.parse((PACKAGE / "errors.py").read_text()))


def attributes_of(node):
    """The attributes that a class gives to its own objects."""
    return [item.attr for item in ast.walk(node) if isinstance(item, ast.Attribute) and isinstance(item.ctx, ast.Store)]


def with_parents(tree):
    found = [(tree, None)]
    for node, _ in found:
        found += [(child, node) for child in ast.iter_child_nodes(node)]
    return found


def is_call(node, names):
    return isinstance(node, ast.Call) and isinstance(node.func, ast.Name) and node.func.id in names


def is_view(node):
    return isinstance(node, ast.Call) and isinstance(node.func, ast.Attribute) and node.func.attr in VIEWS


def is_lazy(node):
    return is_call(node, LAZY) or is_view(node)


def is_walked(node, above):
    """Whether what is walked once stands where it is walked on the spot."""
    if isinstance(above, (ast.For, ast.comprehension)):
        return above.iter is node
    if is_call(above, EATERS):
        return above.args[0] is node
    if is_call(above, ("min", "max")):
        return above.args == [node]
    if is_call(above, ("len",)):
        return is_call(node, ("range",)) or is_view(node) and node.func.attr == "items"
    if is_call(above, ("reversed",)):
        return is_call(node, ("range",))
    if isinstance(above, ast.Compare) and isinstance(above.ops[-1], (ast.In, ast.NotIn)):
        return above.comparators[-1] is node and (is_call(node, ("range",)) or is_view(node))
    return (isinstance(above, ast.Call) and isinstance(above.func, ast.Attribute) and above.func.attr == "join"
            and isinstance(above.func.value, ast.Constant))


def walked_in(value):
    """The texts of the lists and dicts that a loop goes over."""
    if is_call(value, LAZY):
        return {text for each in value.args for text in walked_in(each)}
    if is_view(value):
        return walked_in(value.func.value)
    if isinstance(value, (ast.BoolOp, ast.IfExp)):
        return {text for each in ast.iter_child_nodes(value) for text in walked_in(each)}
    if isinstance(value, ast.Attribute):
        return {"." + value.attr}
    return {ast.unparse(value)} if isinstance(value, (ast.Name, ast.Subscript)) and not (
        isinstance(value, ast.Subscript) and isinstance(value.slice, ast.Slice)) else set()


def changed_by(node):
    """The text of what a node changes, "" of nothing."""
    what = None
    if isinstance(node, ast.Call) and isinstance(node.func, ast.Attribute) and node.func.attr in CHANGES:
        what = node.func.value
    elif is_call(node, HEAPS):
        what = node.args[0]
    elif isinstance(node, ast.Subscript) and isinstance(node.ctx, (ast.Store, ast.Del)):
        what = node.value
    elif isinstance(node, ast.AugAssign):
        what = node.target
    if isinstance(what, ast.Attribute):
        return "." + what.attr
    return "" if what is None else ast.unparse(what)


def changed_in_walk(node):
    """Whether a loop or comprehension changes what it goes over."""
    if isinstance(node, ast.For):
        over, inside = walked_in(node.iter), node.body
    elif isinstance(node, (ast.ListComp, ast.SetComp, ast.DictComp)):
        over, inside = {text for each in node.generators for text in walked_in(each.iter)}, [node]
    else:
        return False
    return any(changed_by(each) in over for part in inside for each in ast.walk(part))


def defined_in(tree):
    names = {node.name for node in tree.body if isinstance(node, (ast.FunctionDef, ast.ClassDef))}
    return names | {node.targets[0].id for node in tree.body if isinstance(node, ast.Assign)}


if __name__ == "__main__":
    unittest.main()
