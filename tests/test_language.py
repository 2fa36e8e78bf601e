"""Whether the package keeps those rules of the language that can be told from its syntax alone."""

import ast
import builtins
import pathlib
import unittest

FOLDER = pathlib.Path(__file__).resolve().parent.parent / "snowsure"

# L2: what may be imported from the library.
LIBRARY = {
    "heapq": {"heappush", "heappop", "heapify", "heapreplace", "heappushpop"},
    "math": {"gcd", "lcm", "isqrt", "comb", "perm", "factorial"},
    "itertools": {"product", "combinations", "permutations", "chain", "accumulate", "pairwise", "islice", "zip_longest"},
    "collections": {"defaultdict", "deque"},
}

# L8, L25: builtins and methods of builtin values.
BUILTINS = set(
    "len range enumerate zip min max sum abs sorted reversed int str bool bytes list tuple dict set isinstance ord repr any all divmod "
    "pow iter next map type super property staticmethod classmethod Exception ValueError TypeError KeyError IndexError LookupError "
    "ZeroDivisionError StopIteration NotImplemented".split()
)
METHODS = set(
    "append clear copy count endswith extend find get index insert isalnum isalpha isdigit islower isspace isupper items join keys "
    "ljust lower lstrip partition pop remove replace reverse rfind rjust rpartition rsplit rstrip setdefault split splitlines startswith "
    "strip update upper values zfill bit_length add discard sort removeprefix removesuffix isascii isdecimal".split()
)

# L17: names that are not used, and words that stand nowhere but in comments and docstrings.
BARRED = set("register mro elements open input law version_info with_traceback add_note".split())
WORDS = set("typing enum Enum Generic Protocol ABC namedtuple NamedTuple TypedDict abstractmethod dataclass overload".split())

STATEMENTS = (
    ast.Assign, ast.AugAssign, ast.If, ast.While, ast.For, ast.Return, ast.Break, ast.Continue, ast.Pass, ast.Raise, ast.Assert,
    ast.Delete, ast.Nonlocal, ast.With, ast.Try, ast.Expr, ast.FunctionDef, ast.ClassDef, ast.ImportFrom,
)


def files():
    return sorted(FOLDER.glob("*.py"))


def docstrings(tree):
    found = []
    for node in ast.walk(tree):
        if isinstance(node, (ast.Module, ast.FunctionDef, ast.ClassDef)) and ast.get_docstring(node) is not None:
            found.append(node.body[0].value)
    return found


class Language(unittest.TestCase):
    def each(self, kinds):
        """All nodes of some kinds, with the file where each stands."""
        for path in files():
            for node in ast.walk(ast.parse(path.read_text())):
                if isinstance(node, kinds):
                    yield path.name, node

    def test_l1_only_files_of_the_language(self):
        for path in FOLDER.iterdir():
            if path.name != "__pycache__":
                self.assertEqual(path.suffix, ".py", path)
                self.assertEqual(path.name, path.name.lower())

    def test_l2_l16_imports(self):
        own = {f"snowsure.{path.stem}": path for path in files()}
        needs = {}
        for path in files():
            tree = ast.parse(path.read_text())
            imports = [node for node in ast.walk(tree) if isinstance(node, (ast.Import, ast.ImportFrom))]
            self.assertEqual(imports, [node for node in tree.body if isinstance(node, ast.ImportFrom)], path.name)
            needs[f"snowsure.{path.stem}"] = set()
            for node in imports:
                self.assertEqual(node.level, 0)
                if node.module in LIBRARY:
                    self.assertLessEqual({name.name for name in node.names}, LIBRARY[node.module])
                    continue
                self.assertIn(node.module, own)
                needs[f"snowsure.{path.stem}"].add(node.module)
                defined = set()
                for row in ast.parse(own[node.module].read_text()).body:
                    if isinstance(row, (ast.FunctionDef, ast.ClassDef)):
                        defined.add(row.name)
                    if isinstance(row, ast.Assign):
                        defined.add(row.targets[0].id)
                self.assertLessEqual({name.name for name in node.names}, defined, path.name)
        while needs:
            free = [name for name, wanted in needs.items() if not wanted & set(needs)]
            self.assertTrue(free, needs)
            needs = {name: wanted for name, wanted in needs.items() if name not in free}

    def test_l2_imports_are_used(self):
        for path in files():
            tree = ast.parse(path.read_text())
            used = {node.id for node in ast.walk(tree) if isinstance(node, ast.Name)}
            for node in tree.body:
                if isinstance(node, ast.ImportFrom):
                    for name in node.names:
                        self.assertIn(name.name, used, path.name)

    def test_l3_module_level(self):
        for path in files():
            above = set()
            for number, node in enumerate(ast.parse(path.read_text()).body):
                if isinstance(node, ast.Expr):
                    self.assertEqual(number, 0)
                    self.assertIsInstance(node.value.value, str)
                elif isinstance(node, ast.Assign):
                    self.assertEqual(len(node.targets), 1)
                    self.assertIsInstance(node.targets[0], ast.Name)
                    if not self.is_table(node.value, above):
                        ast.literal_eval(node.value)
                else:
                    self.assertIsInstance(node, (ast.ImportFrom, ast.FunctionDef, ast.ClassDef))
                if isinstance(node, ast.FunctionDef):
                    above.add(node.name)

    def is_table(self, value, above):
        """Whether a value is a dict of functions that are defined above."""
        if not isinstance(value, ast.Dict):
            return False
        return all(isinstance(key, ast.Constant) for key in value.keys) and all(isinstance(row, ast.Name) and row.id in above for row in value.values)

    def test_l3_functions_of_a_table_are_called_by_a_name(self):
        for name, node in self.each(ast.Call):
            self.assertNotIsInstance(node.func, ast.Subscript, (name, node.lineno))

    def test_l15_tables_at_module_level_are_only_read(self):
        for path in files():
            tree = ast.parse(path.read_text())
            tables = {node.targets[0].id for node in tree.body if isinstance(node, ast.Assign) and isinstance(node.value, (ast.Dict, ast.List))}
            around = {id(child): node for node in ast.walk(tree) for child in ast.iter_child_nodes(node)}
            for node in ast.walk(tree):
                if isinstance(node, ast.Name) and isinstance(node.ctx, ast.Load) and node.id in tables:
                    outer = around[id(node)]
                    by_index = isinstance(outer, ast.Subscript) and isinstance(outer.ctx, ast.Load)
                    by_get = isinstance(outer, ast.Attribute) and outer.attr == "get"
                    self.assertTrue(by_index or by_get or isinstance(outer, ast.Compare), (path.name, node.lineno))

    def test_l6_statements(self):
        for name, node in self.each(ast.stmt):
            self.assertIsInstance(node, STATEMENTS, (name, node.lineno))
            if isinstance(node, (ast.FunctionDef, ast.ClassDef)):
                self.assertEqual(node.decorator_list, [])

    def test_l6_targets(self):
        for name, node in self.each((ast.List, ast.Tuple)):
            if isinstance(node.ctx, ast.Store):
                self.assertIsInstance(node, ast.Tuple, (name, node.lineno))
                self.assertGreater(len(node.elts), 1, (name, node.lineno))

    def test_l7_no_stars_over_calls(self):
        for name, node in self.each((ast.List, ast.Tuple, ast.Call)):
            for part in node.args if isinstance(node, ast.Call) else node.elts:
                if isinstance(part, ast.Starred) and isinstance(part.value, ast.Call):
                    self.assertNotIn(part.value.func.id, ("map", "zip", "range", "enumerate", "reversed"), (name, node.lineno))
                if isinstance(part, ast.Starred) and isinstance(node, ast.Call):
                    self.assertIsInstance(part.value, (ast.Name, ast.Attribute), (name, node.lineno))

    def test_l7_no_floats_no_division(self):
        for name, node in self.each((ast.Constant, ast.Div, ast.GeneratorExp, ast.Set, ast.SetComp)):
            self.assertIsInstance(node, ast.Constant, name)
            self.assertNotIsInstance(node.value, (float, complex, bytes), name)

    def test_l8_builtins(self):
        known = set(dir(builtins)) - {"_"}
        for name, node in self.each(ast.Name):
            if node.id in known:
                self.assertIn(node.id, BUILTINS, (name, node.lineno))
                self.assertIsInstance(node.ctx, ast.Load, (name, node.lineno))
        for name, node in self.each(ast.arg):
            self.assertNotIn(node.arg, known, (name, node.lineno))
        for name, node in self.each((ast.FunctionDef, ast.ClassDef)):
            self.assertNotIn(node.name, known, (name, node.lineno))

    def test_l10_sizes(self):
        for path in files():
            lines = path.read_text().split("\n")
            self.assertLessEqual(len(lines), 399, path.name)
            for number, line in enumerate(lines):
                self.assertLessEqual(len(line), 120, (path.name, number + 1))
                self.assertTrue(all(" " <= sign <= "~" for sign in line), (path.name, number + 1))
        for name, node in self.each(ast.FunctionDef):
            self.assertLessEqual(node.end_lineno - node.lineno + 1, 40, (name, node.name))

    def test_l15_no_name_of_an_import_or_a_class(self):
        for path in files():
            tree = ast.parse(path.read_text())
            top = []
            for node in tree.body:
                if isinstance(node, ast.ImportFrom):
                    top += [name.name for name in node.names]
                elif isinstance(node, ast.Assign):
                    top.append(node.targets[0].id)
                elif isinstance(node, (ast.FunctionDef, ast.ClassDef)):
                    top.append(node.name)
            self.assertEqual(len(top), len(set(top)), path.name)
            for function in [node for node in ast.walk(tree) if isinstance(node, ast.FunctionDef)]:
                for node in ast.walk(function):
                    if isinstance(node, ast.arg):
                        self.assertNotIn(node.arg, top, (path.name, node.lineno))
                    if isinstance(node, ast.Name) and isinstance(node.ctx, ast.Store):
                        self.assertNotIn(node.id, top, (path.name, node.lineno))

    def test_l17_barred_names_and_words(self):
        for name, node in self.each((ast.Name, ast.Attribute, ast.arg, ast.FunctionDef, ast.ClassDef)):
            told = getattr(node, "id", None) or getattr(node, "attr", None) or getattr(node, "arg", None) or getattr(node, "name", "")
            self.assertNotIn(told, BARRED | WORDS, (name, node.lineno))

    def test_l19_handlers_name_errors(self):
        for name, node in self.each(ast.ExceptHandler):
            self.assertIsInstance(node.type, ast.Name, (name, node.lineno))
            self.assertNotIn(node.type.id, ("Exception", "BaseException", "TypeError", "AttributeError"), (name, node.lineno))

    def test_l20_is(self):
        for name, node in self.each(ast.Compare):
            for sign, side in zip(node.ops, node.comparators):
                if isinstance(sign, (ast.Is, ast.IsNot)):
                    self.assertTrue(isinstance(side, ast.Constant) and side.value in (None, True, False), (name, node.lineno))

    def test_l23_iterated_at_once(self):
        takers = ("list", "tuple", "dict", "sorted", "sum", "any", "all", "enumerate", "zip", "min", "max", "len")
        for path in files():
            tree = ast.parse(path.read_text())
            around = {id(child): node for node in ast.walk(tree) for child in ast.iter_child_nodes(node)}
            for node in ast.walk(tree):
                if not isinstance(node, ast.Call):
                    continue
                by_name = isinstance(node.func, ast.Name) and node.func.id in ("zip", "enumerate", "range", "reversed", "map")
                by_method = isinstance(node.func, ast.Attribute) and node.func.attr in ("items", "keys", "values")
                if by_name or by_method:
                    outer = around[id(node)]
                    at_once = isinstance(outer, (ast.For, ast.comprehension)) and outer.iter is node
                    taken = isinstance(outer, ast.Call) and isinstance(outer.func, ast.Name) and outer.func.id in takers
                    products = isinstance(outer, ast.Call) and isinstance(outer.func, ast.Name) and outer.func.id in LIBRARY["itertools"]
                    self.assertTrue(at_once or taken or products, (path.name, node.lineno))

    def test_l2_library_names_are_called(self):
        for path in files():
            tree = ast.parse(path.read_text())
            taken = [node for node in tree.body if isinstance(node, ast.ImportFrom) and node.module in LIBRARY]
            names = {name.name for node in taken for name in node.names}
            called = {id(node.func) for node in ast.walk(tree) if isinstance(node, ast.Call)}
            for node in ast.walk(tree):
                if isinstance(node, ast.Name) and node.id in names:
                    self.assertIn(id(node), called, (path.name, node.lineno))

    def test_l24_sets_stand_on_the_spot(self):
        for path in files():
            tree = ast.parse(path.read_text())
            around = {id(child): node for node in ast.walk(tree) for child in ast.iter_child_nodes(node)}
            for node in ast.walk(tree):
                if isinstance(node, ast.Call) and isinstance(node.func, ast.Name) and node.func.id == "set":
                    outer = around[id(node)]
                    on_call = isinstance(outer, ast.Call) and isinstance(outer.func, ast.Name) and outer.func.id in ("len", "sorted")
                    self.assertTrue(on_call or isinstance(outer, ast.Compare), (path.name, node.lineno))

    def test_l25_methods(self):
        own = {node.name for _, node in self.each(ast.FunctionDef)}
        for name, node in self.each(ast.Call):
            if isinstance(node.func, ast.Attribute):
                self.assertIn(node.func.attr, METHODS | own, (name, node.lineno))
                self.assertEqual([word for word in node.keywords if node.func.attr != "sort"], [], (name, node.lineno))

    def test_l27_strings(self):
        for path in files():
            tree = ast.parse(path.read_text())
            texts = docstrings(tree)
            for node in ast.walk(tree):
                if isinstance(node, ast.Constant) and isinstance(node.value, str) and node not in texts:
                    self.assertNotIn("%", node.value, (path.name, node.lineno))
                    self.assertFalse(WORDS & set(node.value.split()), (path.name, node.lineno))


if __name__ == "__main__":
    unittest.main()
