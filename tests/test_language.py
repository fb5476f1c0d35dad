"""The rules of LANGUAGE.md that a short look at the files can tell: not all of them."""

import ast
import re
import unittest
from pathlib import Path

PACKAGE = Path(__file__).resolve().parent.parent / "solidyard"
BUILTINS = set(
    "len range enumerate zip min max sum abs sorted reversed int str bool bytes list tuple dict set frozenset"
    " isinstance ord repr any all divmod super Exception ValueError TypeError KeyError IndexError LookupError"
    " ZeroDivisionError ArithmeticError OverflowError RuntimeError NotImplementedError AttributeError"
    " StopIteration NotImplemented".split()
)
BARRED_WORDS = (
    r"\b(type|typing|typing_extensions|enum|Enum|IntEnum|StrEnum|Flag|IntFlag|Generic|Protocol|ABC|ABCMeta"
    r"|namedtuple|NamedTuple|TypedDict|TYPE_CHECKING|abstractmethod)\b|dataclass|overload|contextmanager"
)
BARRED_NAMES = set(
    "register mro elements open input version_info with_traceback add_note attrgetter breakpoint builtins compile"
    " copyright credits delattr dir eval exec exit gc getattr globals hasattr help id importlib license locals"
    " methodcaller os quit setattr vars sys global print chr format".split()
)
METHODS = set(
    "append clear copy count endswith extend find get index insert isalnum isalpha isdigit islower isspace isupper"
    " items join keys ljust lower lstrip partition pop remove replace reverse rfind rjust rpartition rsplit rstrip"
    " setdefault split splitlines startswith strip update upper values zfill bit_length add discard __init__"
    " removeprefix".split()
)
KEYWORDS = {
    "sorted": {"key", "reverse"}, "min": {"key", "default"}, "max": {"key", "default"}, "sum": {"start"},
    "enumerate": {"start"}, "zip": {"strict"},
}
GONE_THROUGH_AT_ONCE = {"zip", "enumerate", "reversed", "range"}
STATEMENTS_BARRED = (ast.Global, ast.AsyncFunctionDef, ast.AsyncFor, ast.AsyncWith, ast.Await, ast.Import)
MODULE_LEVEL = (ast.ImportFrom, ast.FunctionDef, ast.ClassDef, ast.Assign, ast.Expr)


def files():
    return sorted(PACKAGE.glob("*.py"))


def bound_names(tree):
    """The names of parameters and of what functions assign."""
    for node in ast.walk(tree):
        if isinstance(node, ast.arg):
            yield node.arg
        elif isinstance(node, ast.Name) and isinstance(node.ctx, ast.Store):
            yield node.id


class Files(unittest.TestCase):
    def test_folder_holds_files_of_the_package_only(self):
        for path in PACKAGE.iterdir():
            if path.name != "__pycache__":
                self.assertTrue(path.is_file() and re.fullmatch(r"[a-z0-9_]+\.py", path.name), path)

    def test_sizes_and_signs(self):
        for path in files():
            text = path.read_bytes().decode("ascii")
            rows = text.split("\n")
            self.assertLessEqual(len(rows), 401, path)
            for row in rows:
                self.assertLessEqual(len(row), 120, path)
                self.assertTrue(all(" " <= sign <= "~" for sign in row), (path, row))
            for node in ast.walk(ast.parse(text)):
                if isinstance(node, ast.FunctionDef):
                    self.assertLessEqual(node.end_lineno - node.lineno + 1, 40, (path, node.name))

    def test_barred_words(self):
        for path in files():
            self.assertIsNone(re.search(BARRED_WORDS, path.read_text()), path)


class Code(unittest.TestCase):
    def trees(self):
        for path in files():
            yield path, ast.parse(path.read_text())

    def test_imports_name_the_defining_file(self):
        for path, tree in self.trees():
            for node in ast.walk(tree):
                if isinstance(node, ast.ImportFrom):
                    self.assertIn(node, tree.body, path)
                    self.assertTrue(node.level == 0 and node.module.startswith("solidyard."), path)
                    source = ast.parse((PACKAGE / (node.module.partition(".")[2] + ".py")).read_text())
                    defined = {part.name for part in source.body if hasattr(part, "name")}
                    for alias in node.names:
                        self.assertIn(alias.name, defined, path)

    def test_no_file_imports_itself_through_others(self):
        needs = {}
        for path, tree in self.trees():
            found = [node.module.partition(".")[2] for node in tree.body if isinstance(node, ast.ImportFrom)]
            needs[path.stem] = set(found)
        while needs:
            free = [name for name in needs if not needs[name] & set(needs)]
            self.assertTrue(free, needs)
            for name in free:
                del needs[name]

    def test_module_level_is_plain(self):
        for path, tree in self.trees():
            for node in tree.body:
                self.assertIsInstance(node, MODULE_LEVEL, path)
                if isinstance(node, ast.Expr):
                    self.assertTrue(node is tree.body[0] and isinstance(node.value, ast.Constant), path)

    def test_statements_and_numbers(self):
        for path, tree in self.trees():
            for node in ast.walk(tree):
                self.assertNotIsInstance(node, STATEMENTS_BARRED, path)
                self.assertNotIsInstance(node, ast.Div, path)
                if isinstance(node, ast.Constant):
                    self.assertNotIsInstance(node.value, (float, complex), path)
                    if isinstance(node.value, str):
                        self.assertNotIn(chr(37), node.value, path)
                if isinstance(node, ast.FunctionDef):
                    self.assertFalse(node.args.posonlyargs, path)
                if isinstance(node, ast.ClassDef):
                    self.assertFalse(node.decorator_list, path)

    def test_calls_of_builtins(self):
        own = {
            part.name for path, tree in self.trees() for node in tree.body if isinstance(node, ast.ClassDef)
            for part in node.body if isinstance(part, ast.FunctionDef)
        }
        for path, tree in self.trees():
            for node in ast.walk(tree):
                if isinstance(node, ast.Call) and isinstance(node.func, ast.Attribute):
                    self.assertIn(node.func.attr, METHODS | own, path)
                    self.assertFalse(node.keywords, path)
                if isinstance(node, ast.Call) and isinstance(node.func, ast.Name) and node.func.id in BUILTINS:
                    handed = {keyword.arg for keyword in node.keywords}
                    self.assertLessEqual(handed, KEYWORDS.get(node.func.id, set()), (path, node.lineno))
                if isinstance(node, (ast.Assign, ast.Return)) and isinstance(node.value, ast.Call):
                    name = getattr(node.value.func, "id", None)
                    self.assertNotIn(name, GONE_THROUGH_AT_ONCE, (path, node.lineno))

    def test_stars_stand_before_names(self):
        for path, tree in self.trees():
            for node in ast.walk(tree):
                if isinstance(node, ast.Call):
                    for handed in node.args:
                        if isinstance(handed, ast.Starred):
                            self.assertIsInstance(handed.value, (ast.Name, ast.Attribute), (path, node.lineno))

    def test_tables_of_a_module_are_read_only(self):
        for path, tree in self.trees():
            tables = {
                target.id for node in tree.body if isinstance(node, ast.Assign) for target in node.targets
                if isinstance(node.value, (ast.Dict, ast.List))
            }
            for node in ast.walk(tree):
                for part in ast.iter_child_nodes(node):
                    if isinstance(part, ast.Name) and part.id in tables and isinstance(part.ctx, ast.Load):
                        self.assertIsInstance(node, (ast.Subscript, ast.Compare, ast.Attribute), (path, part.lineno))
                        self.assertIsInstance(getattr(node, "ctx", ast.Load()), ast.Load, (path, part.lineno))

    def test_errors_are_made_where_they_are_raised(self):
        for path, tree in self.trees():
            for node in ast.walk(tree):
                if isinstance(node, ast.Raise):
                    self.assertTrue(isinstance(node.exc, ast.Call) and isinstance(node.exc.func, ast.Name), path)
                if isinstance(node, ast.ExceptHandler):
                    self.assertIsNotNone(node.type, path)

    def test_is_with_none_true_and_false_alone(self):
        for path, tree in self.trees():
            for node in ast.walk(tree):
                if isinstance(node, ast.Compare):
                    for sign, side in zip(node.ops, node.comparators):
                        if isinstance(sign, (ast.Is, ast.IsNot)):
                            self.assertIn(getattr(side, "value", 0), (None, True, False), (path, node.lineno))

    def test_sets_are_not_gone_through(self):
        for path, tree in self.trees():
            stored = set()
            for node in ast.walk(tree):
                if isinstance(node, ast.Assign) and isinstance(node.value, (ast.Set, ast.SetComp, ast.Call)):
                    if isinstance(node.value, ast.Call) and getattr(node.value.func, "id", None) != "set":
                        continue
                    stored |= {target.id for target in node.targets}
            for node in ast.walk(tree):
                if isinstance(node, (ast.For, ast.comprehension)):
                    self.assertNotIsInstance(node.iter, (ast.Set, ast.SetComp), path)
                    self.assertNotIn(getattr(node.iter, "id", None), stored, path)

    def test_no_import_is_left_unused(self):
        for path, tree in self.trees():
            imported = {a.asname or a.name for n in tree.body if isinstance(n, ast.ImportFrom) for a in n.names}
            read = {node.id for node in ast.walk(tree) if isinstance(node, ast.Name)}
            self.assertFalse(imported - read, path)

    def test_names(self):
        for path, tree in self.trees():
            own = {node.name for node in ast.walk(tree) if isinstance(node, (ast.FunctionDef, ast.ClassDef))}
            classes = {node.name for node in tree.body if isinstance(node, ast.ClassDef)}
            imported = {a.asname or a.name for n in tree.body if isinstance(n, ast.ImportFrom) for a in n.names}
            bound = set(bound_names(tree))
            self.assertFalse(bound & (classes | imported | BUILTINS | BARRED_NAMES), path)
            self.assertFalse(own & (imported | BUILTINS | BARRED_NAMES), path)
            self.assertFalse([name for name in bound if name.startswith("_")], path)
            read = {node.id for node in ast.walk(tree) if isinstance(node, ast.Name)}
            self.assertLessEqual(read, own | imported | bound | BUILTINS, path)


if __name__ == "__main__":
    unittest.main()
