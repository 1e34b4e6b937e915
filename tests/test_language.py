"""The form of the package: those rules of the language (L1 to L28) that are easily read off the files."""

import ast
import builtins
import pathlib
import re
import unittest

PACKAGE = pathlib.Path(__file__).resolve().parent.parent / "trailparts"
FILES = sorted(PACKAGE.rglob("*.py"))
FILE_NAME = r"[a-z][a-z0-9_]*\.py|__init__\.py|__main__\.py"

ALLOWED_BUILTINS = (
    "len range enumerate zip min max sum abs sorted reversed int str bool bytes list tuple dict set frozenset isinstance "
    "ord repr any all divmod iter next Exception ValueError TypeError KeyError IndexError LookupError ZeroDivisionError "
    "ArithmeticError OverflowError RuntimeError NotImplementedError AttributeError StopIteration NotImplemented"
).split()
BARRED_WORDS = (
    "type typing typing_extensions enum Enum IntEnum StrEnum Flag IntFlag Generic Protocol ABC ABCMeta namedtuple "
    "NamedTuple TypedDict TYPE_CHECKING abstractmethod"
).split()
BARRED_PIECES = ["dataclass", "overload", "contextmanager"]
BARRED_NAMES = "register mro elements open input law version_info with_traceback add_note".split()
# Generators are allowed, but hardly so beside a class with __eq__, and the package does without them.
BARRED_NODES = (
    ast.Global, ast.AsyncFunctionDef, ast.AsyncFor, ast.AsyncWith, ast.Await, ast.Div, ast.MatMult, ast.Import,
    ast.GeneratorExp, ast.Yield, ast.YieldFrom, ast.Lambda, ast.Starred, ast.NamedExpr,
)
BUILTIN_METHODS = (
    "append clear copy count endswith extend find get index insert isalnum isalpha isdigit islower isspace isupper items "
    "join keys ljust lower lstrip partition pop remove replace reverse rfind rjust rpartition rsplit rstrip setdefault split "
    "splitlines startswith strip update upper values zfill bit_length isascii "
    "removeprefix"
).split()


def nodes(tree, kind):
    return [node for node in ast.walk(tree) if isinstance(node, kind)]


def methods(tree):
    """Return the names of the methods of a file."""
    return [row.name for node in nodes(tree, ast.ClassDef) for row in node.body if isinstance(row, ast.FunctionDef)]


def module_names(tree):
    """Return the names that a file binds at module level, those of imports left out."""
    assigned = [target.id for row in tree.body if isinstance(row, ast.Assign) for target in row.targets]
    return assigned + [row.name for row in tree.body if isinstance(row, (ast.FunctionDef, ast.ClassDef))]


def imported(tree):
    return [alias.name for node in nodes(tree, ast.ImportFrom) for alias in node.names]


def local_names(tree):
    """Return the names of parameters and variables, those at module level included."""
    variables = [node.id for node in nodes(tree, ast.Name) if not isinstance(node.ctx, ast.Load)]
    errors = [node.name for node in nodes(tree, ast.ExceptHandler) if node.name is not None]
    return variables + errors + [node.arg for node in nodes(tree, ast.arg)]


def size_faults(text, tree):
    rows = text.split("\n")
    faults = [f"line {at + 1} is too long" for at, row in enumerate(rows) if len(row) > 120]
    if len(rows) > 400 or not re.fullmatch(r"[ -~\n]*", text):
        faults.append("too many lines, or a sign that is not allowed")
    for node in nodes(tree, ast.FunctionDef):
        if node.end_lineno - node.lineno + 1 > 40:
            faults.append(f"{node.name} is too long")
    return faults


def word_faults(text, tree):
    faults = [word for word in re.findall(r"\w+", text) if word in BARRED_WORDS]
    return faults + [piece for piece in BARRED_PIECES if piece in text]


def import_faults(text, tree):
    faults = []
    for node in nodes(tree, ast.ImportFrom):
        source = PACKAGE.parent.joinpath(*node.module.split(".")).with_suffix(".py")
        if node.level != 0 or node not in tree.body or PACKAGE not in source.parents or not source.exists():
            faults.append(f"an import in line {node.lineno}")
            continue
        defined = module_names(ast.parse(source.read_text(encoding="utf-8")))
        faults.extend([alias.name for alias in node.names if alias.name not in defined or alias.asname is not None])
    return faults


def statement_faults(text, tree):
    faults = [f"line {node.lineno}" for node in nodes(tree, BARRED_NODES) if hasattr(node, "lineno")]
    faults.extend(["a barred operator" for node in nodes(tree, BARRED_NODES) if not hasattr(node, "lineno")])
    for row in tree.body:
        docstring = isinstance(row, ast.Expr) and isinstance(row.value, ast.Constant)
        if not docstring and not isinstance(row, (ast.ImportFrom, ast.FunctionDef, ast.ClassDef, ast.Assign)):
            faults.append(f"module level, line {row.lineno}")
    return faults


def value_faults(text, tree):
    faults = []
    for node in nodes(tree, ast.Constant):
        if isinstance(node.value, (float, complex)) or isinstance(node.value, str) and chr(37) in node.value:
            faults.append(f"a literal in line {node.lineno}")
    for node in nodes(tree, ast.Compare):
        same = any(isinstance(sign, (ast.Is, ast.IsNot)) for sign in node.ops)
        if same and not all(isinstance(side, ast.Constant) for side in node.comparators):
            faults.append(f"a comparison in line {node.lineno}")
    return faults


def call_faults(text, tree):
    """Return the methods that are called and are neither the package's own nor allowed ones of builtin values."""
    own = [name for path in FILES for name in methods(ast.parse(path.read_text(encoding="utf-8")))]
    called = [node.func.attr for node in nodes(tree, ast.Call) if isinstance(node.func, ast.Attribute)]
    return [name for name in called if name not in own and name not in BUILTIN_METHODS]


def finally_faults(text, tree):
    """Return the rows of finally blocks that do more than assign a name or a literal to an attribute."""
    rows = [row for node in nodes(tree, ast.Try) for row in node.finalbody]
    return [row.lineno for row in rows if not isinstance(row, ast.Assign)
            or not isinstance(row.value, (ast.Name, ast.Constant)) or not isinstance(row.targets[0], ast.Attribute)]


def handler_faults(text, tree):
    """Return the handlers that do not name own errors."""
    own = [node.name for node in nodes(ast.parse((PACKAGE / "errors.py").read_text(encoding="utf-8")), ast.ClassDef)]
    faults = []
    for node in nodes(tree, ast.ExceptHandler):
        caught = node.type.elts if isinstance(node.type, ast.Tuple) else [node.type]
        if not all(isinstance(item, ast.Name) and item.id in own for item in caught):
            faults.append(node.lineno)
    return faults


def table_faults(text, tree):
    """Return the module-level tables that are used otherwise than by an index or in."""
    tables = [row.targets[0].id for row in tree.body if isinstance(row, ast.Assign) and isinstance(row.value, ast.Dict)]
    uses = [node for node in nodes(tree, ast.Name) if node.id in tables and isinstance(node.ctx, ast.Load)]
    right = [node.value for node in nodes(tree, ast.Subscript)]
    right.extend([side for node in nodes(tree, ast.Compare) for side in node.comparators])
    called = [node.func for node in nodes(tree, ast.Call) if isinstance(node.func, ast.Subscript)]
    return [node.lineno for node in uses if node not in right] + [node.lineno for node in called]


def name_faults(text, tree):
    taken = imported(tree) + [node.name for node in nodes(tree, ast.ClassDef)]
    bound = local_names(tree) + [node.name for node in nodes(tree, (ast.FunctionDef, ast.ClassDef))]
    own_methods = methods(tree)
    faults = [name for name in bound if name in BARRED_NAMES]
    faults.extend([name for name in bound if hasattr(builtins, name) and name not in own_methods])
    faults.extend([name for name in bound if name.startswith("_") and name not in own_methods])
    return faults + [name for name in local_names(tree) if name in taken]


def builtin_faults(text, tree):
    known = local_names(tree) + module_names(tree) + imported(tree) + ALLOWED_BUILTINS
    known.extend([node.name for node in nodes(tree, ast.FunctionDef)])
    return [node.id for node in nodes(tree, ast.Name) if node.id not in known]


class LanguageTest(unittest.TestCase):
    def assert_none(self, faults_of):
        for path in FILES:
            text = path.read_text(encoding="utf-8")
            with self.subTest(file=path.name):
                self.assertEqual(faults_of(text, ast.parse(text)), [])

    def test_the_folder_contains_just_files_with_plain_names(self):
        self.assertIn(PACKAGE / "__init__.py", FILES)
        for path in PACKAGE.rglob("*"):
            if "__pycache__" not in path.parts:
                self.assertTrue(path.is_dir() or re.fullmatch(FILE_NAME, path.name), path)

    def test_sizes_and_signs(self):
        self.assert_none(size_faults)

    def test_barred_words(self):
        self.assert_none(word_faults)

    def test_imports_name_the_file_that_defines(self):
        self.assert_none(import_faults)

    def test_statements(self):
        self.assert_none(statement_faults)

    def test_values_and_comparisons(self):
        self.assert_none(value_faults)

    def test_methods_of_builtin_values(self):
        self.assert_none(call_faults)

    def test_finally(self):
        self.assert_none(finally_faults)

    def test_just_own_errors_are_caught(self):
        self.assert_none(handler_faults)

    def test_tables_of_functions(self):
        self.assert_none(table_faults)

    def test_names(self):
        self.assert_none(name_faults)

    def test_builtins(self):
        self.assert_none(builtin_faults)

    def test_no_name_is_a_method_here_and_an_attribute_there(self):
        trees = [ast.parse(path.read_text(encoding="utf-8")) for path in FILES]
        attributes = {node.attr for tree in trees for node in nodes(tree, ast.Attribute)
                      if not isinstance(node.ctx, ast.Load)}
        self.assertEqual(attributes & {name for tree in trees for name in methods(tree)}, set())


if __name__ == "__main__":
    unittest.main()
