"""The rules of the language that can be read off the files of the package, so far as they concern what it uses."""

import ast
import builtins
import keyword
import pathlib
import re
import unittest

PACKAGE = pathlib.Path(__file__).resolve().parent.parent / "slipstold"

BARRED_WORDS = re.compile(
    r"\b(type|typing|typing_extensions|enum|Enum|IntEnum|StrEnum|Flag|IntFlag|Generic|Protocol|ABC|ABCMeta|namedtuple"
    r"|NamedTuple|TypedDict|TYPE_CHECKING|abstractmethod)\b|dataclass|overload|contextmanager")
BARRED_NAMES = set("""register mro elements open input law version_info with_traceback add_note attrgetter breakpoint
    builtins compile copyright credits delattr dir eval exec exit gc getattr globals hasattr help id importlib license
    locals methodcaller os quit setattr type vars sys""".split())
ALLOWED_BUILTINS = set("""len range enumerate zip min max sum abs sorted reversed int str bool bytes list tuple dict set
    isinstance ord repr any all divmod iter next super property staticmethod classmethod Exception ValueError TypeError
    KeyError IndexError LookupError ZeroDivisionError ArithmeticError OverflowError RuntimeError NotImplementedError
    AttributeError StopIteration NotImplemented""".split())
BUILTIN_METHODS = set("""append clear copy count endswith extend find get index insert isalnum isalpha isdigit islower
    isspace isupper items join keys ljust lower lstrip partition pop remove replace reverse rfind rjust rpartition
    rsplit rstrip setdefault split splitlines startswith strip update upper values zfill bit_length add discard
    """.split())
SPECIAL_METHODS = set("""__init__ __eq__ __repr__ __str__ __len__ __enter__ __exit__ __call__ __iter__ __contains__
    __getitem__ __setitem__ __add__ __iadd__ __mul__ __rmul__""".split())
# No operator may use += once a class of the package has __iadd__ (point 28), and so far nothing else needs it.
NO_STATEMENTS = (ast.Global, ast.AsyncFunctionDef, ast.AsyncFor, ast.AsyncWith, ast.Await, ast.AugAssign, ast.Import)
NOT_FROM_GENERATORS = ("sum", "min", "max", "sorted", "any", "all")


def files():
    return sorted(PACKAGE.rglob("*.py"))


def trees():
    return [(path, ast.parse(path.read_text())) for path in files()]


def nodes():
    return [(f"{path.name}:{getattr(node, 'lineno', 0)}", node) for path, tree in trees() for node in ast.walk(tree)]


def bound_names(node):
    """The names that this node itself binds."""
    if isinstance(node, (ast.FunctionDef, ast.ClassDef)):
        return [node.name]
    if isinstance(node, ast.arg):
        return [node.arg]
    if isinstance(node, ast.Name) and not isinstance(node.ctx, ast.Load):
        return [node.id]
    if isinstance(node, ast.alias):
        return [node.asname or node.name]
    return []


def own_methods(tree):
    return {method.name for item in tree.body if isinstance(item, ast.ClassDef)
            for method in item.body if isinstance(method, ast.FunctionDef)}


def defined_names(tree):
    """The names that a file itself defines at module level."""
    return {name for item in tree.body if isinstance(item, (ast.FunctionDef, ast.ClassDef, ast.Assign))
            for part in (item.targets if isinstance(item, ast.Assign) else [item]) for name in bound_names(part)}


class Files(unittest.TestCase):
    def test_the_folder_holds_nothing_but_plain_files(self):
        for path in PACKAGE.rglob("*"):
            if "__pycache__" not in path.parts:
                self.assertRegex(path.name, r"^([a-z][a-z0-9_]*|__init__|__main__)\.py$")
        self.assertTrue((PACKAGE / "__init__.py").is_file())

    def test_characters_lines_and_words(self):
        for path in files():
            text = path.read_bytes().decode("ascii")
            lines = text.split("\n")
            self.assertLessEqual(len(lines), 400, path)
            for number, line in enumerate(lines, 1):
                where = f"{path.name}:{number}"
                self.assertLessEqual(len(line), 120, where)
                self.assertRegex(line, r"^[ -~]*$", where)
                self.assertIsNone(BARRED_WORDS.search(line), where)

    def test_functions_have_at_most_forty_lines(self):
        for where, node in nodes():
            if isinstance(node, ast.FunctionDef):
                self.assertLessEqual(node.end_lineno - node.lineno + 1, 40, where)

    def test_module_level(self):
        allowed = (ast.ImportFrom, ast.FunctionDef, ast.ClassDef, ast.Assign)
        for path, tree in trees():
            self.assertIsNotNone(ast.get_docstring(tree), path)
            for item in tree.body[1:]:
                self.assertIsInstance(item, allowed, f"{path.name}:{item.lineno}")

    def test_imports_name_the_defining_file_of_the_package(self):
        defined = {"slipstold." + path.stem: defined_names(tree) for path, tree in trees()}
        for where, node in nodes():
            if isinstance(node, ast.ImportFrom):
                self.assertEqual(node.level, 0, where)
                for alias in node.names:
                    self.assertIn(alias.name, defined[node.module], where)


    def test_no_two_files_import_from_each_other(self):
        wanted = {path.stem: {node.module.split(".")[-1] for node in ast.walk(tree) if isinstance(node, ast.ImportFrom)}
                  for path, tree in trees()}
        for name in wanted:
            found, queue = set(), [name]
            while queue:
                more = wanted[queue.pop()] - found
                found |= more
                queue += more
            self.assertNotIn(name, found)


class Code(unittest.TestCase):
    def test_statements_and_values(self):
        for where, node in nodes():
            self.assertNotIsInstance(node, NO_STATEMENTS, where)
            if isinstance(node, ast.BinOp):
                self.assertNotIsInstance(node.op, (ast.Div, ast.MatMult), where)
            if isinstance(node, ast.Constant):
                self.assertNotIsInstance(node.value, (float, complex), where)
                if isinstance(node.value, str):
                    self.assertNotIn("%", node.value, where)
            if isinstance(node, ast.Compare):
                for operator, right in zip(node.ops, node.comparators):
                    if isinstance(operator, (ast.Is, ast.IsNot)):
                        self.assertIn(ast.unparse(right), ("None", "True", "False"), where)

    def test_powers(self):
        for where, node in nodes():
            if isinstance(node, ast.BinOp) and isinstance(node.op, ast.Pow):
                self.assertIsInstance(node.right, ast.Constant, where)
                self.assertLessEqual(node.right.value, 64, where)

    def test_bound_names(self):
        for where, node in nodes():
            for name in bound_names(node):
                if name not in SPECIAL_METHODS:
                    self.assertFalse(name.startswith("_") or keyword.iskeyword(name), where)
                self.assertNotIn(name, BARRED_NAMES, where)
                self.assertNotIn(name, dir(builtins), where)

    def test_builtins(self):
        for where, node in nodes():
            if isinstance(node, ast.Name) and node.id in dir(builtins):
                self.assertIn(node.id, ALLOWED_BUILTINS, where)

    def test_no_name_of_an_import_or_a_class_is_bound_again(self):
        for path, tree in trees():
            taken = [name for item in ast.walk(tree) if isinstance(item, (ast.alias, ast.ClassDef))
                     for name in bound_names(item)]
            self.assertEqual(len(taken), len(set(taken)), path)
            for node in ast.walk(tree):
                if not isinstance(node, (ast.alias, ast.ClassDef)):
                    for name in bound_names(node):
                        self.assertNotIn(name, taken, f"{path.name}:{getattr(node, 'lineno', 0)}")

    def test_builtins_that_take_lists_only(self):
        for where, node in nodes():
            if isinstance(node, ast.Call) and isinstance(node.func, ast.Name) and node.func.id in NOT_FROM_GENERATORS:
                for argument in node.args:
                    self.assertNotIsInstance(argument, ast.GeneratorExp, where)

    def test_called_methods(self):
        own = set().union(*[own_methods(tree) for _, tree in trees()])
        for where, node in nodes():
            if isinstance(node, ast.Call) and isinstance(node.func, ast.Attribute):
                self.assertIn(node.func.attr, own | BUILTIN_METHODS, where)

    def test_methods_attributes_and_decorators(self):
        methods = set().union(*[own_methods(tree) for _, tree in trees()])
        for where, node in nodes():
            if isinstance(node, ast.Attribute) and isinstance(node.ctx, ast.Store):
                self.assertNotIn(node.attr, methods, where)
                self.assertFalse(node.attr.startswith("_"), where)
            if isinstance(node, ast.FunctionDef):
                for decorator in node.decorator_list:
                    self.assertIn(ast.unparse(decorator).split(".")[-1],
                                  ("property", "setter", "staticmethod", "classmethod"), where)

    def test_special_methods(self):
        for path, tree in trees():
            own = own_methods(tree)
            self.assertEqual({name for name in own if name.startswith("__")} - SPECIAL_METHODS, set(), path)
            if "__getitem__" in own:
                self.assertIn("__iter__", own, path)
