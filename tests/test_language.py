"""What the rules of the language ask of each file of the package, as far as it is quickly checked."""

import ast
import builtins
import pathlib
import unittest
import warnings

PACKAGE = pathlib.Path(__file__).resolve().parent.parent / "lastkind"
SOURCES = {path.stem: path.read_bytes().decode("ascii") for path in sorted(PACKAGE.glob("*.py"))}
TREES = {name: ast.parse(source) for name, source in SOURCES.items()}
FUNCTIONS = (ast.FunctionDef, ast.Lambda)

# Each file of the interface that has landed, with its functions and the methods of its classes.
INTERFACE = {
    "errors": {"KindError": [], "BadText": [], "BadNote": [], "NoLaying": [], "NoOrder": [],
               "Turned": [], "BadLoop": [], "BadCommand": [], "NothingDone": [], "NoStep": []},
    "words": {"is_name": [], "is_kind": [], "size_of": []},
    "steps": {"is_step": []},
    "texts": {"Text": ["__init__", "__len__", "__getitem__", "__eq__", "__contains__", "with_step",
                       "names", "read"]},
    "notes": {"read_text": [], "write_text": []},
    "layings": {"layings": [], "is_laying": []},
    "runs": {"Run": ["__init__", "lawful", "at", "reason", "found", "told", "end"]},
    "finds": {"finds": []},
    "pairs": {"meets": [], "needs": [], "binding": []},
    "orders": {"turned_pair": [], "turned": [], "number_of": [], "order_at": [], "count_orders": [], "orders": []},
    "changes": {"may_change": [], "may_change_back": [], "changes": []},
    "standing": {"stands": [], "forwarded": []},
    "unseen": {"tied": [], "drifts": [], "dead": [], "shortened": []},
    "loops": {"Loop": ["__init__", "__len__"], "lawful_rounds": [], "apart": [], "nearest": [], "ahead": []},
    "papers": {"paper": [], "holds": []},
    "desk": {"Desk": ["__init__", "text", "say"]},
}

# What the package takes of Python: its functions and errors, and the methods of its values.
BUILTINS = """len range enumerate zip min max sum abs sorted reversed int str bool list tuple dict set isinstance ord
    any all divmod property classmethod ValueError TypeError IndexError""".split()
METHODS = """append clear copy count endswith extend find get index insert isdigit items join keys partition pop
    remove replace reverse setdefault split startswith strip update values""".split()
BARRED = """register mro elements open input law version_info with_traceback add_note attrgetter builtins compile
    copyright credits delattr dir eval exec exit gc globals help id importlib license locals methodcaller os quit
    super type vars sys map format""".split()


def nodes():
    for name, tree in TREES.items():
        for node in ast.walk(tree):
            yield name, node


def imports_of(name):
    return [node for node in ast.walk(TREES[name]) if isinstance(node, (ast.Import, ast.ImportFrom))]


class Files(unittest.TestCase):
    def test_the_folder_contains_only_the_files(self):
        found = [path for path in PACKAGE.rglob("*") if "__pycache__" not in path.parts]
        self.assertEqual(sorted(found), sorted(PACKAGE / f"{name}.py" for name in SOURCES))

    def test_characters_and_sizes(self):
        for name, source in SOURCES.items():
            lines = source.split("\n")
            self.assertLess(len(lines), 400, name)
            for line in lines:
                self.assertLessEqual(len(line), 120, (name, line))
                self.assertTrue(all(" " <= sign <= "~" for sign in line), (name, line))

    def test_functions_are_short(self):
        for name, node in nodes():
            if isinstance(node, FUNCTIONS):
                self.assertLessEqual(node.end_lineno - node.lineno + 1, 40, (name, node.lineno))

    def test_python_warns_of_nothing(self):
        with warnings.catch_warnings():
            warnings.simplefilter("error")
            for name, source in SOURCES.items():
                compile(source, name, "exec")


class Imports(unittest.TestCase):
    def test_each_import_names_the_file_that_defines_the_name(self):
        for name in SOURCES:
            for node in imports_of(name):
                self.assertIsInstance(node, ast.ImportFrom, name)
                folder, _, file = node.module.partition(".")
                self.assertEqual(folder, "lastkind", name)
                defined = [row.name for row in TREES[file].body if hasattr(row, "name")]
                defined += [row.targets[0].id for row in TREES[file].body if isinstance(row, ast.Assign)]
                for alias in node.names:
                    self.assertIn(alias.name, defined)

    def test_no_two_files_import_from_each_other(self):
        left = {name: [node.module.partition(".")[2] for node in imports_of(name)] for name in SOURCES}
        while left:
            free = [name for name in left if not any(other in left for other in left[name])]
            self.assertTrue(free, left)
            for name in free:
                del left[name]


class Words(unittest.TestCase):
    def test_no_function_and_no_variable_has_the_name_of_a_builtin(self):
        for name, node in nodes():
            if isinstance(node, ast.Name) and isinstance(node.ctx, ast.Store):
                self.assertNotIn(node.id, dir(builtins), name)
            if isinstance(node, ast.arg):
                self.assertNotIn(node.arg, dir(builtins), name)

    def test_only_known_functions_and_methods_of_python_are_used(self):
        own = {node.name for _, node in nodes() if isinstance(node, (ast.FunctionDef, ast.ClassDef))}
        for name, node in nodes():
            if isinstance(node, ast.Name) and node.id in dir(builtins):
                self.assertIn(node.id, BUILTINS, (name, node.lineno))
            if isinstance(node, ast.Call) and isinstance(node.func, ast.Attribute):
                self.assertIn(node.func.attr, own | set(METHODS), (name, node.lineno))

    def test_names_that_are_not_used(self):
        for name, node in nodes():
            for told in [getattr(node, part, None) for part in ("id", "arg", "attr", "name")]:
                self.assertNotIn(told, BARRED, name)
                if isinstance(told, str) and not (told.startswith("__") and told.endswith("__")):
                    self.assertNotRegex(told, "^(__|_wall|_pe_|_dcw_|_enum_|_cm_|_lay_|_law_|_stub_)", name)

    def test_no_variable_has_the_name_of_an_import_or_a_class_of_its_file(self):
        for name, tree in TREES.items():
            taken = [alias.name for node in imports_of(name) for alias in node.names]
            taken += [node.name for node in tree.body if isinstance(node, ast.ClassDef)]
            for node in ast.walk(tree):
                if isinstance(node, ast.Name) and isinstance(node.ctx, ast.Store):
                    self.assertNotIn(node.id, taken, (name, node.lineno))
                if isinstance(node, ast.arg):
                    self.assertNotIn(node.arg, taken, (name, node.lineno))

    def test_no_generator_expressions_and_no_floating_or_global_names(self):
        barred = (ast.GeneratorExp, ast.Global, ast.AsyncFunctionDef, ast.Await, ast.Set)
        for name, node in nodes():
            self.assertNotIsInstance(node, barred, (name, getattr(node, "lineno", 0)))

    def test_the_one_generator_is_not_used_in_the_package(self):
        found = [node.name for _, node in nodes() if isinstance(node, ast.FunctionDef)
                 for row in ast.walk(node) if isinstance(row, (ast.Yield, ast.YieldFrom))]
        self.assertEqual(found, ["orders"])
        for name, node in nodes():
            if isinstance(node, ast.Name):
                self.assertNotEqual(node.id, "orders", name)
            if isinstance(node, ast.ImportFrom):
                self.assertNotIn("orders", [alias.name for alias in node.names], name)

    def test_reversed_takes_lists_and_ranges(self):
        for name, node in nodes():
            if isinstance(node, ast.Call) and isinstance(node.func, ast.Name) and node.func.id == "reversed":
                given = node.args[0]
                self.assertIsInstance(given, ast.Call, (name, node.lineno))
                self.assertIn(given.func.id, ("list", "tuple", "sorted", "range"), (name, node.lineno))

    def test_strings_contain_no_percent_sign(self):
        for name, node in nodes():
            if isinstance(node, ast.Constant) and isinstance(node.value, str):
                self.assertNotIn("%", node.value, name)

    def test_any_and_all_and_the_like_take_lists(self):
        for name, node in nodes():
            if isinstance(node, ast.Call) and isinstance(node.func, ast.Name):
                if node.func.id in ("any", "all", "min", "max", "sum", "sorted"):
                    for given in node.args:
                        self.assertNotIsInstance(given, ast.GeneratorExp, (name, node.lineno))

    def test_no_division_and_no_float(self):
        for name, node in nodes():
            self.assertNotIsInstance(node, ast.Div, name)
            if isinstance(node, ast.Constant):
                self.assertNotIsInstance(node.value, (float, complex), name)


class Classes(unittest.TestCase):
    def test_no_name_is_a_method_and_an_attribute(self):
        decorated, plain, stored = [], [], []
        for name, node in nodes():
            if isinstance(node, ast.ClassDef):
                methods = [row for row in node.body if isinstance(row, ast.FunctionDef)]
                names = [row.name for row in methods]
                attributes = {row.attr for row in ast.walk(node) if isinstance(row, ast.Attribute)
                              and isinstance(row.ctx, ast.Store)}
                self.assertEqual(len(names), len(set(names)), name)
                self.assertFalse(attributes & set(names), name)
                self.assertFalse(attributes & set(METHODS) - {"index"}, name)
                stored += attributes
                decorated += [row.name for row in methods if row.decorator_list]
                plain += [row.name for row in methods if not row.decorator_list]
        self.assertFalse(set(decorated) & set(plain + stored + METHODS))

    def test_attributes_that_are_read_are_assigned(self):
        own = {node.name for _, node in nodes() if isinstance(node, ast.FunctionDef)}
        stored = {node.attr for _, node in nodes() if isinstance(node, ast.Attribute)
                  and isinstance(node.ctx, ast.Store)}
        for name, node in nodes():
            if isinstance(node, ast.Attribute) and isinstance(node.ctx, ast.Load):
                self.assertIn(node.attr, own | stored | set(METHODS), (name, node.lineno))

    def test_sets_stand_only_where_they_may(self):
        for name, node in nodes():
            made = isinstance(node, ast.Call) and isinstance(node.func, ast.Name) and node.func.id in ("sorted", "len")
            sets = [row for row in ast.iter_child_nodes(node) if isinstance(row, ast.SetComp) or (
                isinstance(row, ast.Call) and isinstance(row.func, ast.Name) and row.func.id == "set")]
            self.assertTrue(made or not sets, (name, getattr(node, "lineno", 0)))


class Interface(unittest.TestCase):
    def test_each_name_is_defined_in_its_file(self):
        for file, wanted in INTERFACE.items():
            rows = {row.name: row for row in TREES[file].body if hasattr(row, "name")}
            for name, methods in wanted.items():
                self.assertIn(name, rows)
                own = [row.name for row in rows[name].body if isinstance(row, ast.FunctionDef)]
                for method in methods:
                    self.assertIn(method, own)


if __name__ == "__main__":
    unittest.main()
