"""The package keeps to the subset of Python: those of its rules that the code itself shows."""

import ast
import re
import unittest
from pathlib import Path

PACKAGE = Path(__file__).resolve().parent.parent / "layfaces"
FILES = sorted(PACKAGE.glob("*.py"))

BUILTINS = set(
    "len range enumerate zip min max sum abs sorted reversed int str bool list tuple dict set isinstance ord repr "
    "any all divmod super Exception ValueError KeyError IndexError LookupError ZeroDivisionError".split()
)
METHODS = set(
    "append clear copy count endswith extend find get index insert isalnum isalpha isdigit islower isspace isupper "
    "items join keys ljust lower lstrip partition pop remove replace reverse rfind rjust rpartition rsplit rstrip "
    "setdefault split splitlines startswith strip update upper values zfill bit_length add discard sort "
    "__init__".split()
)
# What these give is iterated at once: they stand in a loop's head, or as all that one of the others takes.
AT_ONCE = set("range enumerate zip reversed items keys values".split())
TAKERS = set("list tuple dict sorted sum any all enumerate zip min max".split())
BARRED_NODES = (
    ast.Global, ast.AsyncFunctionDef, ast.AsyncFor, ast.AsyncWith, ast.Await, ast.Div, ast.MatMult, ast.Import,
)
BARRED_WORDS = set(
    "type typing typing_extensions enum Enum IntEnum StrEnum Flag IntFlag Generic Protocol ABC ABCMeta namedtuple "
    "NamedTuple TypedDict TYPE_CHECKING abstractmethod".split()
)
BARRED_NAMES = set(
    "register mro elements open input law version_info with_traceback add_note eval exec getattr setattr globals "
    "locals vars dir id hash next map round filter format print chr float object".split()
)


def trees():
    for path in FILES:
        yield path.name, ast.parse(path.read_text())


def held_names(tree):
    """The classes and imports of a file: no variable of it has such a name."""
    imported = [alias.name for node in tree.body if isinstance(node, ast.ImportFrom) for alias in node.names]
    return set(imported) | {node.name for node in tree.body if isinstance(node, ast.ClassDef)}


def called(call):
    """The name of what is called, of a function or a method."""
    return getattr(call.func, "id", None) or getattr(call.func, "attr", None)


def picked_from_table(value):
    """Whether it is an item of a table at module level, by its name in great letters."""
    return isinstance(value, ast.Subscript) and isinstance(value.value, ast.Name) and value.value.id.isupper()


def own_names():
    return {
        node.name for name, tree in trees() for node in ast.walk(tree)
        if isinstance(node, (ast.FunctionDef, ast.ClassDef))
    }


class TestText(unittest.TestCase):
    def test_the_folder_holds_python_files_alone(self):
        others = [path.name for path in PACKAGE.iterdir() if path.suffix != ".py" and path.name != "__pycache__"]
        self.assertEqual(others, [])
        self.assertIn("__init__.py", [path.name for path in FILES])

    def test_characters_and_sizes(self):
        for path in FILES:
            text = path.read_text()
            with self.subTest(file=path.name):
                self.assertEqual(re.findall("[^ -~\n]", text), [])
                self.assertLess(len(text.splitlines()), 400)
                self.assertLessEqual(max(len(line) for line in text.splitlines()), 120)

    def test_words_that_do_not_occur(self):
        for path in FILES:
            text = path.read_text()
            self.assertEqual(set(re.findall("[A-Za-z_0-9]+", text)) & BARRED_WORDS, set(), path.name)
            self.assertEqual(re.findall("dataclass|overload|contextmanager", text), [], path.name)


class TestCode(unittest.TestCase):
    def test_statements_and_literals(self):
        for name, tree in trees():
            for node in ast.walk(tree):
                self.assertNotIsInstance(node, BARRED_NODES, name)
                if isinstance(node, ast.Constant):
                    self.assertNotIsInstance(node.value, (float, complex), name)
                    self.assertFalse(isinstance(node.value, str) and chr(37) in node.value, name)
                if isinstance(node, (ast.FunctionDef, ast.ClassDef)):
                    self.assertEqual(node.decorator_list, [], name)
                if isinstance(node, ast.FunctionDef):
                    self.assertLessEqual(node.end_lineno - node.lineno + 1, 40, node.name)

    def test_module_level(self):
        for name, tree in trees():
            for node in tree.body:
                docstring = isinstance(node, ast.Expr) and isinstance(node.value, ast.Constant)
                plain = isinstance(node, (ast.ImportFrom, ast.FunctionDef, ast.ClassDef, ast.Assign))
                self.assertTrue(docstring or plain, (name, node.lineno))
                if isinstance(node, ast.Assign) and not isinstance(node.value, ast.Dict):
                    self.assertIsInstance(ast.literal_eval(node.value), (int, str, tuple), name)

    def test_tables_hold_functions_defined_above(self):
        for name, tree in trees():
            above = []
            for node in tree.body:
                if isinstance(node, ast.FunctionDef):
                    above.append(node.name)
                if isinstance(node, ast.Assign) and isinstance(node.value, ast.Dict):
                    self.assertEqual({type(ast.literal_eval(key)) for key in node.value.keys}, {str}, name)
                    self.assertEqual({each.id for each in node.value.values} - set(above), set(), name)

    def test_tables_are_only_read(self):
        for name, tree in trees():
            tables = {
                node.targets[0].id for node in tree.body
                if isinstance(node, ast.Assign) and isinstance(node.value, ast.Dict)
            }
            allowed = []
            for node in ast.walk(tree):
                if isinstance(node, ast.Subscript) and isinstance(node.ctx, ast.Load):
                    allowed.append(node.value)
                if isinstance(node, ast.Compare):
                    allowed.extend(node.comparators)
            for node in ast.walk(tree):
                if isinstance(node, ast.Name) and node.id in tables and isinstance(node.ctx, ast.Load):
                    self.assertIn(node, allowed, (name, node.lineno))

    def test_imports_name_the_file_that_defines(self):
        for name, tree in trees():
            for node in ast.walk(tree):
                if isinstance(node, ast.ImportFrom):
                    self.assertEqual((node.level, node.module.split(".")[0]), (0, "layfaces"), name)
                    defining = ast.parse((PACKAGE / (node.module.split(".")[1] + ".py")).read_text())
                    defined = {each.name for each in defining.body if hasattr(each, "name")}
                    defined |= {each.targets[0].id for each in defining.body if isinstance(each, ast.Assign)}
                    self.assertEqual({alias.name for alias in node.names} - defined, set(), name)

    def test_names(self):
        for name, tree in trees():
            for node in ast.walk(tree):
                found = None
                if isinstance(node, ast.Name):
                    found = node.id
                elif isinstance(node, ast.arg):
                    found = node.arg
                elif isinstance(node, (ast.FunctionDef, ast.ClassDef)) and node.name != "__init__":
                    found = node.name
                if found is not None:
                    self.assertFalse(found.startswith("_"), (name, found))
                    self.assertNotIn(found, BARRED_NAMES, name)
                stored = isinstance(node, ast.Name) and not isinstance(node.ctx, ast.Load)
                if stored or isinstance(node, ast.arg):
                    self.assertNotIn(found, BUILTINS | held_names(tree), name)

    def test_calls(self):
        own = own_names()
        for name, tree in trees():
            picked = {
                node.targets[0].id for node in ast.walk(tree) if isinstance(node, ast.Assign)
                and isinstance(node.targets[0], ast.Name) and picked_from_table(node.value)
            }
            for node in ast.walk(tree):
                if isinstance(node, ast.Call) and isinstance(node.func, ast.Name):
                    self.assertIn(node.func.id, BUILTINS | own | picked, (name, node.lineno))
                if isinstance(node, ast.Call) and isinstance(node.func, ast.Attribute):
                    self.assertIn(node.func.attr, METHODS | own, (name, node.lineno))

    def test_what_is_iterated_at_once(self):
        for name, tree in trees():
            allowed = []
            for node in ast.walk(tree):
                if isinstance(node, (ast.For, ast.comprehension)):
                    allowed.append(node.iter)
                if isinstance(node, ast.Call) and called(node) in TAKERS:
                    allowed.extend(node.args[:1])
                if isinstance(node, ast.Call) and called(node) == "reversed":
                    allowed.extend(each for each in node.args if isinstance(each, ast.Call) and called(each) == "range")
            for node in ast.walk(tree):
                if isinstance(node, ast.Call) and called(node) in AT_ONCE:
                    self.assertIn(node, allowed, (name, node.lineno))

    def test_no_file_imports_one_that_imports_it(self):
        needs = {}
        for name, tree in trees():
            modules = [node.module for node in ast.walk(tree) if isinstance(node, ast.ImportFrom)]
            needs[name[:-3]] = {module.split(".")[1] for module in modules}
        while needs:
            free = [name for name in needs if not needs[name] & set(needs)]
            self.assertNotEqual(free, [], needs)
            needs = {name: needs[name] for name in needs if name not in free}

    def test_sets_stand_where_they_may(self):
        for name, tree in trees():
            allowed = []
            for node in ast.walk(tree):
                if isinstance(node, ast.Call) and isinstance(node.func, ast.Name) and node.func.id in ("sorted", "len"):
                    allowed.extend(node.args)
            for node in ast.walk(tree):
                if isinstance(node, ast.SetComp):
                    self.assertIn(node, allowed, (name, node.lineno))


if __name__ == "__main__":
    unittest.main()
