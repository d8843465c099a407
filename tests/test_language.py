"""The rules of LANGUAGE.md that a look at the files can tell, over every file of the package."""

import ast
import builtins
import pathlib
import re
import unittest

PACKAGE = pathlib.Path(__file__).resolve().parent.parent / "meanbits"
FILES = sorted(PACKAGE.glob("*.py"))
TREES = {path.stem: ast.parse(path.read_text()) for path in FILES}

BUILTINS = set("""len range enumerate zip min max sum abs sorted reversed int str bool bytes list tuple dict set
    frozenset isinstance ord repr any all divmod Exception ValueError TypeError KeyError IndexError LookupError
    ZeroDivisionError ArithmeticError OverflowError RuntimeError NotImplementedError AttributeError StopIteration
    NotImplemented super""".split())
METHODS = set("""append clear copy count endswith extend find get index insert isalnum isalpha isdigit islower isspace
    isupper items join keys ljust lower lstrip partition pop remove replace reverse rfind rjust rpartition rsplit
    rstrip setdefault split splitlines startswith strip update upper values zfill bit_length title capitalize swapcase
    casefold center expandtabs removeprefix removesuffix rindex isascii isdecimal isnumeric istitle isidentifier
    isprintable translate maketrans add discard sort""".split())
BARRED_WORDS = set("""type typing typing_extensions enum Enum IntEnum StrEnum Flag IntFlag Generic Protocol ABC ABCMeta
    namedtuple NamedTuple TypedDict TYPE_CHECKING abstractmethod""".split())
BARRED_NAMES = set("""register mro elements open input version_info with_traceback add_note attrgetter breakpoint
    builtins compile copyright credits delattr dir eval exec exit gc getattr globals hasattr help id importlib license
    locals methodcaller os quit setattr type vars sys""".split())
SPECIAL_METHODS = {"__init__", "__eq__", "__repr__", "__str__", "__len__"}
FUNCTIONS = (ast.FunctionDef, ast.Lambda)


def defined(tree):
    """The names that a file binds at its module level, with those that it imports."""
    names = []
    for node in tree.body:
        if isinstance(node, (ast.FunctionDef, ast.ClassDef)):
            names.append(node.name)
        if isinstance(node, ast.Assign):
            names += [target.id for target in node.targets]
        if isinstance(node, ast.ImportFrom):
            names += [alias.asname or alias.name for alias in node.names]
    return names


def imported(tree):
    """Pairs of the module and the name of each import."""
    return [(node.module, alias.name) for node in tree.body if isinstance(node, ast.ImportFrom) for alias in node.names]


def local_names(tree):
    """Parameters and what is assigned inside functions."""
    for function in ast.walk(tree):
        if isinstance(function, FUNCTIONS):
            for node in ast.walk(function):
                if isinstance(node, ast.arg):
                    yield node.arg
                if isinstance(node, ast.Name) and isinstance(node.ctx, ast.Store):
                    yield node.id


class Files(unittest.TestCase):
    def test_the_folder_holds_plain_files_only(self):
        for path in PACKAGE.iterdir():
            if path.name != "__pycache__":
                self.assertRegex(path.name, r"^([a-z][a-z0-9_]*|__init__)\.py$")
        self.assertIn(PACKAGE / "__init__.py", FILES)

    def test_signs_and_sizes(self):
        for path in FILES:
            text = path.read_text()
            self.assertRegex(text, r"\A[ -~\n]*\Z", path.name)
            lines = text.splitlines()
            self.assertLessEqual(len(lines), 400, path.name)
            for line in lines:
                self.assertLessEqual(len(line), 120, line)
            for node in ast.walk(TREES[path.stem]):
                if isinstance(node, ast.FunctionDef):
                    self.assertLessEqual(node.end_lineno - node.lineno + 1, 40, node.name)

    def test_barred_words(self):
        for path in FILES:
            text = path.read_text()
            self.assertEqual(set(re.findall(r"\w+", text)) & BARRED_WORDS, set(), path.name)
            self.assertNotRegex(text, "dataclass|overload|contextmanager", path.name)


class Modules(unittest.TestCase):
    def test_module_level(self):
        for name, tree in TREES.items():
            for node in tree.body:
                self.assertIsInstance(
                    node, (ast.Expr, ast.ImportFrom, ast.FunctionDef, ast.ClassDef, ast.Assign), name)
                if isinstance(node, ast.Expr):
                    self.assertIs(type(node.value.value), str, name)
            names = defined(tree)
            self.assertEqual(len(names), len(set(names)), name)

    def test_imports_name_the_file_that_defines(self):
        for name, tree in TREES.items():
            for node in ast.walk(tree):
                self.assertNotIsInstance(node, ast.Import, name)
                if isinstance(node, ast.ImportFrom):
                    self.assertEqual(node.level, 0, name)
                    self.assertIn(node, tree.body, name)
            for module, bound in imported(tree):
                self.assertTrue(module.startswith("meanbits."), name)
                source = TREES[module.removeprefix("meanbits.")]
                own = set(defined(source)) - {alias for _, alias in imported(source)}
                self.assertIn(bound, own, name)

    def test_imports_go_round_nowhere(self):
        needs = {name: {module.removeprefix("meanbits.") for module, _ in imported(tree)}
                 for name, tree in TREES.items()}
        while needs:
            free = [name for name in needs if not needs[name] & set(needs)]
            self.assertTrue(free, needs)
            for name in free:
                del needs[name]


class Names(unittest.TestCase):
    def test_names_are_plain(self):
        for name, tree in TREES.items():
            for node in ast.walk(tree):
                for bound in (getattr(node, "id", ""), getattr(node, "attr", ""), getattr(node, "arg", "")):
                    if bound not in SPECIAL_METHODS:
                        self.assertFalse((bound or "").startswith("_"), (name, bound))
                    self.assertNotIn(bound, BARRED_NAMES, name)
                if isinstance(node, (ast.FunctionDef, ast.ClassDef)) and node.name not in SPECIAL_METHODS:
                    self.assertFalse(node.name.startswith("_"), (name, node.name))

    def test_local_names_hide_nothing(self):
        for name, tree in TREES.items():
            classes = {node.name for node in tree.body if isinstance(node, ast.ClassDef)}
            hidden = classes | {alias for _, alias in imported(tree)} | set(dir(builtins))
            self.assertEqual(set(local_names(tree)) & hidden, set(), name)

    def test_builtins_are_those_of_the_list(self):
        for name, tree in TREES.items():
            known = set(defined(tree)) | set(local_names(tree)) | BUILTINS
            for node in ast.walk(tree):
                if isinstance(node, ast.Name):
                    self.assertIn(node.id, known, name)

    def test_methods_are_own_or_of_the_list(self):
        own = {node.name for tree in TREES.values() for holder in ast.walk(tree) if isinstance(holder, ast.ClassDef)
               for node in holder.body if isinstance(node, ast.FunctionDef)}
        for name, tree in TREES.items():
            for node in ast.walk(tree):
                if isinstance(node, ast.Call) and isinstance(node.func, ast.Attribute):
                    self.assertIn(node.func.attr, own | METHODS, name)

    def test_no_name_is_a_method_and_an_attribute(self):
        methods, attributes = set(), set()
        for tree in TREES.values():
            for node in ast.walk(tree):
                if isinstance(node, ast.ClassDef):
                    methods |= {one.name for one in node.body if isinstance(one, ast.FunctionDef)}
                if isinstance(node, ast.Attribute) and isinstance(node.ctx, ast.Store):
                    attributes.add(node.attr)
        self.assertEqual(methods & attributes, set())


class Expressions(unittest.TestCase):
    def test_expressions(self):
        for name, tree in TREES.items():
            for node in ast.walk(tree):
                self.assertNotIsInstance(node, (ast.Div, ast.Global, ast.AsyncFunctionDef, ast.Await), name)
                if isinstance(node, ast.Constant):
                    self.assertNotIsInstance(node.value, (float, complex), name)
                    if isinstance(node.value, str):
                        self.assertNotIn("%", node.value, name)
                if isinstance(node, ast.BinOp) and isinstance(node.op, ast.Pow):
                    self.assertIn(getattr(node.right, "value", None), range(65), name)
                if isinstance(node, ast.Compare) and isinstance(node.ops[0], (ast.Is, ast.IsNot)):
                    sides = [node.left] + node.comparators
                    self.assertTrue(any(isinstance(side, ast.Constant) and side.value in (None, True, False)
                                        for side in sides), name)
