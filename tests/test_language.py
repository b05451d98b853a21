"""The package's files keep to the plain part of the language that they are written in, as far as can be seen here."""

import ast
import unittest
from importlib import import_module
from pathlib import Path

PACKAGE = Path(__file__).resolve().parent.parent / "ripewaves"
BUILTINS = {
    "len", "range", "enumerate", "zip", "min", "max", "sum", "abs", "sorted", "reversed", "int", "str", "bool",
    "list", "tuple", "dict", "set", "isinstance", "ord", "repr", "any", "all", "divmod", "ValueError", "type",
}
ALL_BUILTINS = set(dir(__import__("builtins")))
METHODS = set("__init__ __eq__ __repr__ __str__ __len__".split())
WORDS = set("""type typing typing_extensions enum Enum IntEnum StrEnum Flag IntFlag Generic Protocol ABC ABCMeta
namedtuple NamedTuple TypedDict TYPE_CHECKING abstractmethod register mro elements open input law version_info""".split())
STATEMENTS = (ast.Import, ast.AsyncFunctionDef, ast.AsyncFor, ast.AsyncWith, ast.Await, ast.Global, ast.TryStar)
LIBRARY = {
    "math": {"gcd", "lcm", "isqrt", "comb", "perm", "factorial"},
    "itertools": {"product", "combinations", "permutations"},
}
EATERS = {"any", "all", "min", "max", "sum", "sorted"}


def files():
    return sorted(PACKAGE.glob("*.py"))


def trees():
    return [(path, ast.parse(path.read_text(encoding="ascii"))) for path in files()]


def is_plain(value):
    if isinstance(value, ast.UnaryOp) and isinstance(value.op, ast.USub):
        return is_plain(value.operand)
    return isinstance(value, (ast.Constant, ast.Tuple, ast.List, ast.Dict))


class Files(unittest.TestCase):
    def test_only_plain_files_stand_in_the_package(self):
        for path in PACKAGE.iterdir():
            if path.name != "__pycache__":
                self.assertTrue(path.is_file() and path.suffix == ".py", path)
                self.assertRegex(path.stem, r"^(__init__|[a-z][a-z0-9_]*)$")

    def test_characters_and_lengths(self):
        for path in files():
            text = path.read_bytes().decode("ascii")
            self.assertTrue(all(sign == "\n" or " " <= sign <= "~" for sign in text), path)
            rows = text.split("\n")
            self.assertLessEqual(len(rows), 400, path)
            self.assertLessEqual(max(len(row) for row in rows), 120, path)

    def test_length_of_functions(self):
        for path, tree in trees():
            for node in ast.walk(tree):
                if isinstance(node, ast.FunctionDef):
                    self.assertLessEqual(node.end_lineno - node.lineno + 1, 40, (path, node.name))


class Rows(unittest.TestCase):
    def test_module_level(self):
        for path, tree in trees():
            for at, node in enumerate(tree.body):
                where = (path.name, node.lineno)
                if isinstance(node, ast.Assign):
                    self.assertEqual(len(node.targets), 1, where)
                    self.assertTrue(is_plain(node.value), where)
                elif isinstance(node, ast.Expr):
                    self.assertEqual(at, 0, where)
                else:
                    self.assertIsInstance(node, (ast.ImportFrom, ast.FunctionDef, ast.ClassDef), where)

    def test_imports(self):
        for path, tree in trees():
            for node in ast.walk(tree):
                if isinstance(node, ast.ImportFrom):
                    self.assertEqual(node.level, 0, path)
                    if node.module in LIBRARY:
                        self.check_library(path, tree, node)
                        continue
                    self.assertTrue(node.module.startswith("ripewaves."), path)
                    defined = definitions(ast.parse((PACKAGE / (node.module[10:] + ".py")).read_text()))
                    for alias in node.names:
                        self.assertIn(alias.name, defined, path)
                        self.assertIsNone(alias.asname, path)

    def check_library(self, path, tree, node):
        """Of the library just the names that are let, and these are only called, with arguments by position."""
        for alias in node.names:
            self.assertIn(alias.name, LIBRARY[node.module], path)
            self.assertIsNone(alias.asname, path)
            calls = [n for n in ast.walk(tree) if isinstance(n, ast.Call) and getattr(n.func, "id", "") == alias.name]
            reads = [n for n in ast.walk(tree) if isinstance(n, ast.Name) and n.id == alias.name]
            self.assertEqual(len(calls), len(reads), path)
            self.assertTrue(calls, path)
            for call in calls:
                self.assertEqual(call.keywords, [], path)

    def test_no_two_files_import_each_other(self):
        needs = {
            path.stem: {
                n.module[10:] for n in ast.walk(tree)
                if isinstance(n, ast.ImportFrom) and n.module not in LIBRARY
            }
            for path, tree in trees()
        }
        while needs:
            free = [name for name in needs if not needs[name] & set(needs)]
            self.assertTrue(free, needs)
            for name in free:
                del needs[name]

    def test_nothing_that_is_barred(self):
        for path, tree in trees():
            for node in ast.walk(tree):
                where = (path.name, getattr(node, "lineno", 0))
                self.assertNotIsInstance(node, STATEMENTS, where)
                if isinstance(node, (ast.FunctionDef, ast.ClassDef)):
                    self.assertEqual(node.decorator_list, [], where)
                    if node.name.startswith("__"):
                        self.assertIn(node.name, METHODS, where)
                if isinstance(node, ast.Constant):
                    self.assertNotIsInstance(node.value, (float, complex), where)
                if isinstance(node, ast.BinOp):
                    self.assertNotIsInstance(node.op, (ast.Div, ast.MatMult), where)

    def test_builtins(self):
        for path, tree in trees():
            for node in ast.walk(tree):
                if isinstance(node, ast.Name) and node.id in ALL_BUILTINS:
                    self.assertIsInstance(node.ctx, ast.Load, (path.name, node.lineno))
                    self.assertIn(node.id, BUILTINS, (path.name, node.lineno))
                if isinstance(node, ast.arg):
                    self.assertNotIn(node.arg, ALL_BUILTINS, (path.name, node.lineno))

    def test_words(self):
        for path, tree in trees():
            for node in ast.walk(tree):
                names = [getattr(node, field, None) for field in ("id", "attr", "arg", "name")]
                for name in names:
                    if name != "type":
                        self.assertNotIn(name, WORDS, path)

    def test_the_kind_of_a_thing_is_asked_for_its_name_alone(self):
        for path, tree in trees():
            asked = [n.value.func for n in ast.walk(tree) if isinstance(n, ast.Attribute) and n.attr == "__name__"
                     and isinstance(n.value, ast.Call)]
            read = [n for n in ast.walk(tree) if isinstance(n, ast.Name) and n.id == "type"]
            self.assertEqual(set(map(id, asked)), set(map(id, read)), path)

    def test_lists_where_a_class_compares(self):
        for path, tree in trees():
            for node in ast.walk(tree):
                if isinstance(node, ast.Call) and isinstance(node.func, ast.Name) and node.func.id in EATERS:
                    for given in node.args:
                        self.assertNotIsInstance(given, ast.GeneratorExp, (path.name, node.lineno))
                if isinstance(node, ast.Call) and isinstance(node.func, ast.Attribute):
                    self.assertNotEqual(node.func.attr, "sort", (path.name, node.lineno))


def definitions(tree):
    names = [node.name for node in tree.body if isinstance(node, (ast.FunctionDef, ast.ClassDef))]
    return names + [node.targets[0].id for node in tree.body if isinstance(node, ast.Assign)]


class Interface(unittest.TestCase):
    def test_each_name_is_defined_in_its_file(self):
        listed = {
            "books": "Book beneath above filled bared day put_together parted beside drawn_together",
            "standings": "is_standing comes ripe led is_willing standings many_rows",
            "even": "fewest most shortest longest is_even is_lefts is_parting lefts to_and_fro parting",
            "days": "latecomer latecomers bad_days waves is_even_daily many_writes fewest_parted greatest_share",
            "cache": "Cache",
            "texts": "book_text",
            "reading": "read_book",
            "twoblocks": "is_to_and_fro two_rows long_row fewest_two by_turns number_at row_to pair_floor",
            "lists": """lists_book meetings fewest_lists most_lists least_row mirrors is_mirrors list_parting
            many_even""",
            "sweeps": "swept there_and_back sweep_of steps_back turns_of back_row best_order best_turning",
            "wishes": "fewest_for row_for comes_along may_come_along best_next wish_numbers dearest",
            "rules": "row_by row_of_writer rule_numbers rule_shares blind_days beaten",
            "toldback": """is_log makes log_of sure_needs never_needs open_needs fewest_needs other_rows freest_book
            fullest_book""",
            "records": "Records",
            "shell": "Shell tale read_tale tale_text",
            "trees": "tree_for is_tree floors",
            "bench": "Bench",
        }
        for name, words in listed.items():
            defined = definitions(ast.parse((PACKAGE / (name + ".py")).read_text()))
            for word in words.split():
                self.assertIn(word, defined)
                self.assertEqual(getattr(import_module("ripewaves." + name), word).__module__, "ripewaves." + name)

    def test_classes_have_their_methods_in_their_own_bodies(self):
        listed = {
            "books": "__init__ __eq__",
            "cache": "change writes last write waiting ripe cut seen picture disk sync flush book drop gone history copy",
            "records": """cache make put tie untie drop records on_disk ties_to write flush cut settle copy""",
            "shell": "tell",
            "bench": "lie fewest worked shift need unneed undo book even late copy",
        }
        for name, words in listed.items():
            tree = ast.parse((PACKAGE / (name + ".py")).read_text())
            [made] = [node for node in tree.body if isinstance(node, ast.ClassDef)]
            self.assertEqual(made.bases, [])
            own = [node.name for node in made.body if isinstance(node, ast.FunctionDef)]
            self.assertEqual(len(own), len(set(own)))
            for word in words.split():
                self.assertIn(word, own)


if __name__ == "__main__":
    unittest.main()
