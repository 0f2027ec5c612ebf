"""The form of the package's files: the rules of the language that can be seen in them by a simple look."""

import ast
import builtins
import pathlib
import re
import unittest

PACKAGE = pathlib.Path(__file__).resolve().parent.parent / "midwindow"

OWN_NAMES = set("""
    len range enumerate zip min max sum abs sorted reversed int str bool list tuple dict set frozenset isinstance ord
    repr any all divmod Exception ValueError TypeError KeyError IndexError LookupError ZeroDivisionError
    ArithmeticError OverflowError RuntimeError NotImplementedError AttributeError StopIteration
""".split())

OWN_METHODS = set("""
    append clear copy count endswith extend find get index insert isalnum isalpha isdigit islower isspace isupper items
    join keys ljust lower lstrip partition pop remove replace reverse rfind rjust rpartition rsplit rstrip setdefault
    split splitlines startswith strip update upper values zfill bit_length __init__
""".split())

WORDS_OUT = re.compile(
    r"\b(type|typing|typing_extensions|enum|Enum|IntEnum|StrEnum|Flag|IntFlag|Generic|Protocol|ABC|ABCMeta|namedtuple"
    r"|NamedTuple|TypedDict|TYPE_CHECKING|abstractmethod)\b|dataclass|overload|contextmanager"
)

NODES_OUT = (
    ast.AsyncFor, ast.AsyncFunctionDef, ast.AsyncWith, ast.Assert, ast.Await, ast.Delete, ast.DictComp,
    ast.GeneratorExp, ast.Global, ast.Import, ast.Match, ast.NamedExpr, ast.Nonlocal, ast.SetComp, ast.Starred,
    ast.With, ast.Yield, ast.YieldFrom, ast.Div, ast.MatMult,
)


def files():
    return sorted(PACKAGE.rglob("*.py"))


def nodes():
    for path in files():
        for node in ast.walk(ast.parse(path.read_text(encoding="utf-8"))):
            yield path, node


def names_given():
    given = set()
    for path, node in nodes():
        if isinstance(node, (ast.FunctionDef, ast.ClassDef)):
            given.add(node.name)
        elif isinstance(node, ast.arg):
            given.add(node.arg)
        elif isinstance(node, ast.Name) and isinstance(node.ctx, ast.Store):
            given.add(node.id)
        elif isinstance(node, ast.Attribute) and isinstance(node.ctx, ast.Store):
            given.add(node.attr)
        elif isinstance(node, ast.ExceptHandler) and node.name:
            given.add(node.name)
    return given


def methods_and_values():
    methods, values = set(), set()
    for path, node in nodes():
        if isinstance(node, ast.ClassDef):
            methods.update(part.name for part in node.body if isinstance(part, ast.FunctionDef))
        elif isinstance(node, ast.Attribute) and isinstance(node.ctx, ast.Store):
            values.add(node.attr)
    return methods, values


def module_of(path):
    return ".".join(path.relative_to(PACKAGE.parent).with_suffix("").parts)


def imports():
    """For each module: each name that it imports, and from where."""
    drawn = {module_of(path): {} for path in files()}
    for path, node in nodes():
        if isinstance(node, ast.ImportFrom):
            drawn[module_of(path)].update({alias.name: node.module for alias in node.names})
    return drawn


class Form(unittest.TestCase):
    def refuse(self, path, node, why):
        line = getattr(node, "lineno", 0)
        self.fail(f"{path.relative_to(PACKAGE.parent)}, line {line}: {why}")

    def test_there_are_files(self):
        self.assertIn(PACKAGE / "__init__.py", files())

    def test_names_of_files_and_folders(self):
        for path in PACKAGE.rglob("*"):
            if "__pycache__" in path.parts:
                continue
            with self.subTest(path=path):
                if path.is_dir():
                    self.assertTrue((path / "__init__.py").is_file())
                self.assertRegex(path.name, r"^[a-z0-9_]+$" if path.is_dir() else r"^[a-z0-9_]+\.py$")
                self.assertNotIn(path.stem, dir(builtins))

    def test_signs_and_sizes(self):
        for path in files():
            text = path.read_bytes().decode("ascii")
            with self.subTest(path=path):
                self.assertRegex(text, r"\A[ -~\n]*\Z")
                self.assertLessEqual(len(text.split("\n")), 400)
                self.assertLessEqual(max(len(line) for line in text.split("\n")), 120)
                self.assertIsNone(WORDS_OUT.search(text))

    def test_small_functions(self):
        for path, node in nodes():
            if isinstance(node, ast.FunctionDef) and node.end_lineno - node.lineno + 1 > 40:
                self.refuse(path, node, f"{node.name} is longer than 40 lines")

    def test_statements_and_expressions(self):
        for path, node in nodes():
            if isinstance(node, NODES_OUT):
                self.refuse(path, node, f"{node.__class__.__name__} is not used")
            if isinstance(node, ast.Assign) and len(node.targets) != 1:
                self.refuse(path, node, "more than one target")
            if isinstance(node, (ast.For, ast.While)) and node.orelse:
                self.refuse(path, node, "else behind a loop")
            if isinstance(node, ast.Try) and node.finalbody:
                self.refuse(path, node, "finally is not used")
            if isinstance(node, ast.Constant) and isinstance(node.value, (float, complex, bytes)):
                self.refuse(path, node, "neither a whole number nor a text")
            if isinstance(node, ast.Constant) and isinstance(node.value, str) and "%" in node.value:
                self.refuse(path, node, "the sign for per cent in a text")
            if isinstance(node, (ast.FunctionDef, ast.ClassDef)) and node.decorator_list:
                self.refuse(path, node, "a decorator")
            if isinstance(node, ast.arguments) and (node.vararg or node.kwarg or node.kwonlyargs or node.posonlyargs):
                self.refuse(path, node, "parameters that are not plain")
            if isinstance(node, ast.ListComp) and (len(node.generators) != 1 or len(node.generators[0].ifs) > 1):
                self.refuse(path, node, "a list comprehension of more than one for and one if")

    def test_imports(self):
        for path, node in nodes():
            if isinstance(node, ast.ImportFrom):
                if node.level or node.module.split(".")[0] != "midwindow" or node.names[0].name == "*":
                    self.refuse(path, node, "an import that is not the package's own by its full name")

    def test_imports_are_from_the_file_that_defines_the_name(self):
        for module, names in imports().items():
            for name, source in names.items():
                path = PACKAGE.parent.joinpath(*source.split(".")).with_suffix(".py")
                defined = [getattr(node, "name", None) for node in ast.parse(path.read_text(encoding="utf-8")).body]
                with self.subTest(module=module, name=name):
                    self.assertIn(name, defined)

    def test_imports_go_round_nowhere(self):
        left = {module: set(names.values()) for module, names in imports().items()}
        while left:
            free = [module for module, sources in left.items() if not sources & set(left)]
            self.assertTrue(free, f"these draw from one another: {sorted(left)}")
            for module in free:
                left.pop(module)

    def test_no_parameter_and_no_local_is_called_like_an_import(self):
        drawn = imports()
        for path, node in nodes():
            name = None
            if isinstance(node, ast.arg):
                name = node.arg
            elif isinstance(node, ast.Name) and isinstance(node.ctx, ast.Store):
                name = node.id
            if name in drawn[module_of(path)]:
                self.refuse(path, node, f"{name} is imported here")

    def test_no_name_is_a_method_and_a_value(self):
        methods, values = methods_and_values()
        self.assertEqual(methods & values, set())

    def test_names_given(self):
        for name in names_given() - {"__init__"}:
            with self.subTest(name=name):
                self.assertRegex(name, r"^[A-Za-z][A-Za-z0-9_]*$")
                self.assertNotIn(name, dir(builtins))

    def test_names_of_pythons_own(self):
        for path, node in nodes():
            if isinstance(node, ast.Name) and node.id in set(dir(builtins)) - OWN_NAMES:
                self.refuse(path, node, f"{node.id} is not used")

    def test_methods_of_pythons_own(self):
        known = OWN_METHODS | names_given()
        for path, node in nodes():
            if isinstance(node, ast.Attribute) and node.attr not in known:
                self.refuse(path, node, f"{node.attr} is not used")


if __name__ == "__main__":
    unittest.main()
