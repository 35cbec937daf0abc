"""The package keeps the rules of LANGUAGE.md, as far as they can be seen from its syntax trees."""

import ast
import builtins
import pathlib
import re
import unittest

FOLDER = pathlib.Path(__file__).resolve().parent.parent / "steadycraft"
BUILTINS = set("""len range enumerate zip min max sum abs sorted reversed int str bool bytes list tuple dict set
isinstance ord repr any all divmod Exception ValueError TypeError KeyError IndexError LookupError
ZeroDivisionError""".split())
LIBRARY = {"math": {"gcd", "lcm", "isqrt", "comb", "perm", "factorial"}}
METHODS = set("""append clear copy count endswith extend find get index insert isalnum isalpha isdigit islower isspace
isupper items join keys ljust lower lstrip partition pop remove replace reverse rfind rjust rpartition rsplit rstrip
setdefault split splitlines startswith strip update upper values zfill bit_length""".split())
BARRED = (ast.AsyncFunctionDef, ast.Global, ast.Await, ast.Yield, ast.YieldFrom, ast.Lambda, ast.JoinedStr,
          ast.GeneratorExp, ast.AsyncFor, ast.With, ast.Match, ast.NamedExpr, ast.Nonlocal)
TAKE_A_LIST = ("any", "all", "min", "max", "sum", "sorted", "tuple", "list", "dict")


def files():
    return sorted(FOLDER.glob("*.py"))


def trees():
    return [(path, ast.parse(path.read_text())) for path in files()]


def walked(kinds):
    return [(path, node) for path, tree in trees() for node in ast.walk(tree) if isinstance(node, kinds)]


def is_name(node, names):
    return isinstance(node, ast.Name) and node.id in names


class LanguageTest(unittest.TestCase):
    def where(self, path, node):
        return f"{path.name}:{node.lineno}"

    def test_files(self):
        for path in FOLDER.iterdir():
            if path.name != "__pycache__":
                self.assertTrue(re.fullmatch(r"[a-z_]+\.py", path.name), path)
                self.assertTrue(path.stem == "__init__" or not hasattr(builtins, path.stem), path)
        for path in files():
            text = path.read_text()
            self.assertTrue(all(sign == "\n" or " " <= sign <= "~" for sign in text), path)
            lines = text.split("\n")
            self.assertLessEqual(len(lines), 399, path)
            self.assertLessEqual(max(map(len, lines)), 120, path)
            self.assertNotIn("_wall", text)

    def test_sizes_of_functions(self):
        for path, node in walked(ast.FunctionDef):
            self.assertLessEqual(node.end_lineno - node.lineno + 1, 40, self.where(path, node))
            self.assertEqual(node.decorator_list, [], self.where(path, node))

    def test_module_level(self):
        for path, tree in trees():
            bound = []
            for node in tree.body:
                kinds = (ast.ImportFrom, ast.FunctionDef, ast.ClassDef, ast.Assign, ast.Expr)
                self.assertIsInstance(node, kinds, self.where(path, node))
                if isinstance(node, ast.Expr):
                    self.assertIsInstance(node.value, ast.Constant)
                if isinstance(node, ast.Assign):
                    self.plain(path, node.value, bound)
                    bound += [target.id for target in node.targets]
                if isinstance(node, ast.ImportFrom):
                    bound += [alias.name for alias in node.names]
                if isinstance(node, (ast.FunctionDef, ast.ClassDef)):
                    bound.append(node.name)
            self.assertEqual(len(bound), len(set(bound)), path)

    def plain(self, path, value, bound):
        """A literal, or a dict of literals and of functions defined above."""
        items = value.values if isinstance(value, ast.Dict) else [value]
        for item in items:
            if isinstance(value, ast.Dict) and isinstance(item, ast.Name):
                self.assertIn(item.id, bound, self.where(path, item))
            else:
                told = ast.literal_eval(item)
                if isinstance(told, (tuple, dict)):
                    self.assertNotIn("[", repr(told))

    def test_tables_are_only_read(self):
        tables = {target.id for path, tree in trees() for node in tree.body if isinstance(node, ast.Assign)
                  and isinstance(node.value, (ast.Dict, ast.List)) for target in node.targets}
        self.assertLessEqual({"PARTS", "ITEMS", "ACTIONS", "BEATS"}, tables)
        for path, tree in trees():
            right = {id(node.value) for node in ast.walk(tree) if isinstance(node, ast.Subscript)
                     and isinstance(node.ctx, ast.Load)}
            right |= {id(node.comparators[0]) for node in ast.walk(tree) if isinstance(node, ast.Compare)
                      and isinstance(node.ops[0], (ast.In, ast.NotIn))}
            for node in ast.walk(tree):
                if isinstance(node, ast.Name) and node.id in tables and isinstance(node.ctx, ast.Load):
                    self.assertIn(id(node), right, self.where(path, node))

    def test_imports(self):
        defined = {}
        for path, tree in trees():
            defined[path.stem] = {node.name for node in tree.body if isinstance(node, (ast.FunctionDef, ast.ClassDef))}
            defined[path.stem] |= {target.id for node in tree.body if isinstance(node, ast.Assign)
                                   for target in node.targets}
        needs = {path.stem: set() for path in files()}
        for path, node in walked((ast.Import, ast.ImportFrom)):
            self.assertIsInstance(node, ast.ImportFrom, self.where(path, node))
            self.assertEqual([alias.asname for alias in node.names], [None] * len(node.names))
            names = {alias.name for alias in node.names}
            if node.module in LIBRARY:
                self.assertLessEqual(names, LIBRARY[node.module])
                continue
            package, _, module = node.module.partition(".")
            self.assertEqual(package, "steadycraft")
            self.assertLessEqual(names, defined[module], self.where(path, node))
            needs[path.stem].add(module)
        while needs:
            free = [name for name in needs if not needs[name] & set(needs)]
            self.assertTrue(free, "files import from each other")
            needs = {name: needs[name] for name in needs if name not in free}

    def test_imports_are_used(self):
        for path, tree in trees():
            used = {node.id for node in ast.walk(tree) if isinstance(node, ast.Name)}
            imported = {alias.name for node in tree.body if isinstance(node, ast.ImportFrom) for alias in node.names}
            self.assertLessEqual(imported, used, path)

    def test_kinds_of_nodes(self):
        for path, node in walked(BARRED):
            self.fail(self.where(path, node))
        for path, node in walked(ast.Constant):
            self.assertNotIsInstance(node.value, (float, complex), self.where(path, node))
        for path, node in walked((ast.BinOp, ast.AugAssign)):
            self.assertNotIsInstance(node.op, (ast.Div, ast.MatMult), self.where(path, node))
            if isinstance(node.op, ast.Pow):
                self.assertTrue(isinstance(node.right, ast.Constant) and 0 <= node.right.value <= 64)
        for path, node in walked(ast.Compare):
            for sign, right in zip(node.ops, node.comparators):
                if isinstance(sign, (ast.Is, ast.IsNot)):
                    self.assertTrue(isinstance(right, ast.Constant), self.where(path, node))

    def test_names(self):
        for path, tree in trees():
            taken = {alias.name for node in tree.body if isinstance(node, ast.ImportFrom) for alias in node.names}
            taken |= {node.name for node in tree.body if isinstance(node, ast.ClassDef)}
            for node in ast.walk(tree):
                stored = isinstance(node, ast.Name) and isinstance(node.ctx, ast.Store)
                name = node.id if stored else node.arg if isinstance(node, ast.arg) else None
                if name is None:
                    continue
                self.assertTrue(re.fullmatch(r"_|_?[A-Za-z][A-Za-z0-9_]*", name), self.where(path, node))
                self.assertNotIn(name, taken, self.where(path, node))
                self.assertTrue(name == "format" or not hasattr(builtins, name), self.where(path, node))
            for node in ast.walk(tree):
                if isinstance(node, ast.Name) and isinstance(node.ctx, ast.Load):
                    self.assertNotEqual(node.id, "_", self.where(path, node))

    def test_calls(self):
        own = {node.name for _, node in walked((ast.FunctionDef, ast.ClassDef))}
        # What a caller passes, and what comes from a table of functions.
        own |= {"telling", "action"}
        for path, node in walked(ast.Call):
            where = self.where(path, node)
            self.assertFalse(any(isinstance(arg, ast.Starred) for arg in node.args), where)
            if isinstance(node.func, ast.Name):
                self.assertIn(node.func.id, own | BUILTINS | LIBRARY["math"], where)
                self.assertLessEqual({word.arg for word in node.keywords}, {"key", "default"}, where)
            else:
                self.assertIsInstance(node.func, ast.Attribute, where)
                self.assertIn(node.func.attr, own | METHODS, where)
                self.assertEqual(node.keywords, [], where)

    def test_builtins_are_only_called(self):
        kept = {"ValueError", "int", "bool", "str", "tuple", "list", "dict"}
        for path, tree in trees():
            called = {id(node.func) for node in ast.walk(tree) if isinstance(node, ast.Call)}
            for node in ast.walk(tree):
                if isinstance(node, ast.Name) and hasattr(builtins, node.id) and node.id not in kept | {"format"}:
                    self.assertIn(id(node), called, self.where(path, node))
                    self.assertIn(node.id, BUILTINS, self.where(path, node))

    def test_sets_stand_in_sorted_or_len(self):
        for path, tree in trees():
            right = {id(arg) for node in ast.walk(tree) if isinstance(node, ast.Call)
                     and is_name(node.func, ("sorted", "len")) and not node.keywords for arg in node.args}
            for node in ast.walk(tree):
                if isinstance(node, (ast.Set, ast.SetComp)):
                    self.assertIn(id(node), right, self.where(path, node))

    def test_iterated_at_once(self):
        for path, tree in trees():
            right = {id(node.iter) for node in ast.walk(tree) if isinstance(node, (ast.For, ast.comprehension))}
            right |= {id(arg) for node in ast.walk(tree) if isinstance(node, ast.Call)
                      and is_name(node.func, TAKE_A_LIST + ("enumerate", "zip")) for arg in node.args}
            for node in ast.walk(tree):
                if isinstance(node, ast.Call) and (is_name(node.func, ("zip", "enumerate", "range", "reversed")) or (
                        isinstance(node.func, ast.Attribute) and node.func.attr in ("items", "keys", "values"))):
                    self.assertIn(id(node), right, self.where(path, node))

    def test_classes(self):
        for path, node in walked(ast.ClassDef):
            self.assertEqual(node.decorator_list, [])
            for item in node.body:
                self.assertIsInstance(item, (ast.FunctionDef, ast.Expr), self.where(path, item))
                if isinstance(item, ast.FunctionDef) and item.name.startswith("__"):
                    self.assertIn(item.name, ("__init__", "__eq__"), self.where(path, item))
                if isinstance(item, ast.FunctionDef) and item.name == "__eq__":
                    first = ast.unparse(item.body[0])
                    self.assertEqual(first, f"if not isinstance(other, {node.name}):\n    return False")
        for path, node in walked(ast.ExceptHandler):
            self.assertIsNotNone(node.type, self.where(path, node))
        for path, node in walked(ast.Raise):
            self.assertIsInstance(node.exc, ast.Call, self.where(path, node))

    def test_strings_hold_no_barred_signs(self):
        for path, node in walked(ast.Constant):
            if isinstance(node.value, str):
                self.assertNotIn("__", node.value, self.where(path, node))
                self.assertNotIn(chr(37), node.value, self.where(path, node))


if __name__ == "__main__":
    unittest.main()
