"""The rules of LANGUAGE.md that can be looked up in the syntax of the files."""

import ast
import builtins
import re
import unittest
from pathlib import Path

PACKAGE = Path(__file__).resolve().parent.parent / "wholesay"
LIBRARY = {
    "heapq": {"heappush", "heappop", "heapify", "heapreplace", "heappushpop"},
    "math": {"gcd", "lcm", "isqrt", "comb", "perm", "factorial"},
    "itertools": {"product", "combinations", "permutations", "chain", "accumulate", "pairwise", "islice",
                  "zip_longest"},
    "collections": {"defaultdict", "deque"},
}
BUILTINS = set(
    "len range enumerate zip min max sum abs sorted reversed int str bool list tuple dict set isinstance ord repr any "
    "all divmod pow iter next map Exception ValueError TypeError KeyError IndexError LookupError".split())
METHODS = set(
    "append clear copy count endswith extend find get index insert isalnum isalpha isdigit islower isspace isupper "
    "items join keys ljust lower lstrip partition pop remove replace reverse rfind rjust rpartition rsplit rstrip "
    "setdefault split splitlines startswith strip update upper values zfill bit_length add discard sort".split())
BARRED = set(
    "type typing enum Enum Flag Generic Protocol ABC namedtuple register mro elements open input law eval exec "
    "globals locals vars dir id help exit quit compile super gc os sys".split())
NODES = (ast.Global, ast.Nonlocal, ast.AsyncFunctionDef, ast.Await, ast.TryStar, ast.Yield, ast.YieldFrom,
         ast.JoinedStr, ast.NamedExpr, ast.AnnAssign, ast.With, ast.Match, ast.Div, ast.Set, ast.GeneratorExp)


def files():
    return sorted(PACKAGE.rglob("*.py"))


def trees():
    return [(path, ast.parse(path.read_text())) for path in files()]


def functions(tree):
    return [node for node in ast.walk(tree) if isinstance(node, ast.FunctionDef)]


def bound_in(function):
    """The parameters and local names of a function."""
    names = [arg.arg for arg in function.args.args + function.args.kwonlyargs]
    for node in ast.walk(function):
        if isinstance(node, ast.Name) and isinstance(node.ctx, ast.Store):
            names.append(node.id)
        if isinstance(node, ast.arg):
            names.append(node.arg)
    return set(names)


class Language(unittest.TestCase):
    def test_the_folder(self):
        for path in PACKAGE.rglob("*"):
            if "__pycache__" not in path.parts:
                self.assertTrue(path.suffix == ".py" and re.fullmatch("[a-z_0-9]+", path.stem), path)

    def test_lines_and_sizes(self):
        for path, tree in trees():
            text = path.read_text()
            self.assertTrue(all(" " <= sign <= "~" or sign == "\n" for sign in text), path)
            lines = text.split("\n")
            self.assertLessEqual(len(lines), 399, path)
            self.assertTrue(all(len(line) <= 120 for line in lines), path)
            for node in functions(tree):
                self.assertLessEqual(node.end_lineno - node.lineno + 1, 40, (path, node.name))

    def test_imports(self):
        for path, tree in trees():
            for node in ast.walk(tree):
                self.assertNotIsInstance(node, ast.Import, path)
                if isinstance(node, ast.ImportFrom):
                    self.assertEqual(node.level, 0)
                    names = {alias.name for alias in node.names}
                    self.assertTrue(all(alias.asname is None for alias in node.names))
                    if node.module in LIBRARY:
                        self.assertTrue(names <= LIBRARY[node.module], path)
                        continue
                    self.assertTrue(node.module.startswith("wholesay."), path)
                    source = ast.parse((PACKAGE / (node.module.split(".")[1] + ".py")).read_text())
                    self.assertTrue(names <= defined_in(source), (path, names - defined_in(source)))

    def test_no_circles(self):
        leads = {path.stem: {node.module.split(".")[1] for node in ast.walk(tree)
                             if isinstance(node, ast.ImportFrom) and node.module not in LIBRARY}
                 for path, tree in trees()}
        while leads:
            free = [name for name, others in leads.items() if not others & set(leads)]
            self.assertTrue(free, leads)
            for name in free:
                del leads[name]

    def test_module_level(self):
        for path, tree in trees():
            names = []
            for node in tree.body:
                self.assertIsInstance(node, (ast.Expr, ast.ImportFrom, ast.FunctionDef, ast.ClassDef, ast.Assign), path)
                if isinstance(node, ast.Expr):
                    self.assertIsInstance(node.value, ast.Constant)
                elif isinstance(node, ast.ImportFrom):
                    names += [alias.name for alias in node.names]
                elif isinstance(node, ast.Assign):
                    self.assertEqual([type(target) for target in node.targets], [ast.Name])
                    names.append(node.targets[0].id)
                else:
                    names.append(node.name)
            self.assertEqual(len(names), len(set(names)), path)
            self.assertFalse(set(names) & set(dir(builtins)), path)

    def test_names(self):
        for path, tree in trees():
            fixed = {alias.name for node in tree.body if isinstance(node, ast.ImportFrom) for alias in node.names}
            fixed |= {node.name for node in tree.body if isinstance(node, ast.ClassDef)}
            for node in functions(tree):
                bound = bound_in(node)
                self.assertFalse(bound & fixed, (path, node.name))
                self.assertFalse(bound & set(dir(builtins)), (path, node.name))
                self.assertFalse(node.decorator_list)
                self.assertFalse(node.args.vararg or node.args.kwarg)
            for node in ast.walk(tree):
                for name in [getattr(node, "id", None), getattr(node, "attr", None), getattr(node, "arg", None)]:
                    self.assertNotIn(name, BARRED, path)

    def test_what_is_used(self):
        own = {item.name for _, tree in trees() for node in tree.body if isinstance(node, ast.ClassDef)
               for item in node.body if isinstance(item, ast.FunctionDef)}
        for path, tree in trees():
            known = defined_in(tree) | {alias.name for node in tree.body if isinstance(node, ast.ImportFrom)
                                        for alias in node.names}
            for node in ast.walk(tree):
                self.assertNotIsInstance(node, NODES, path)
                if isinstance(node, ast.Name) and node.id in dir(builtins) and node.id not in known:
                    self.assertIn(node.id, BUILTINS, path)
                if isinstance(node, ast.Call) and isinstance(node.func, ast.Attribute):
                    self.assertIn(node.func.attr, METHODS | own, path)
                if isinstance(node, ast.Constant):
                    self.assertNotIsInstance(node.value, (float, complex, bytes), path)
                if isinstance(node, ast.Constant) and isinstance(node.value, str):
                    self.assertNotIn("%", node.value, path)
                if isinstance(node, ast.BinOp) and isinstance(node.op, ast.Pow):
                    self.assertIsInstance(node.right, ast.Constant, path)
                if isinstance(node, ast.Compare):
                    for sign, other in zip(node.ops, node.comparators):
                        if isinstance(sign, (ast.Is, ast.IsNot)):
                            self.assertIn(other.value, (None, True, False))

    def test_nothing_is_left_unused(self):
        for path, tree in trees():
            used = {node.id for node in ast.walk(tree) if isinstance(node, ast.Name)}
            for node in tree.body:
                if isinstance(node, ast.ImportFrom):
                    self.assertTrue({alias.name for alias in node.names} <= used, (path, node.module))


def defined_in(tree):
    names = {node.name for node in tree.body if isinstance(node, (ast.FunctionDef, ast.ClassDef))}
    return names | {node.targets[0].id for node in tree.body if isinstance(node, ast.Assign)}


if __name__ == "__main__":
    unittest.main()
