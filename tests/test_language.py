"""Rules of the language that can be read off the files: L1, L2, L4 to L8, L10, L12, L14 to L18, L20, L27."""

import ast
import builtins
import pathlib
import re
import unittest

FOLDER = pathlib.Path(__file__).resolve().parent.parent / "brimyard"
BARRED_WORDS = re.compile(
    r"\b(type|typing|typing_extensions|enum|Enum|IntEnum|StrEnum|Flag|IntFlag|Generic|Protocol|ABC|ABCMeta|namedtuple"
    r"|NamedTuple|TypedDict|TYPE_CHECKING|abstractmethod)\b|dataclass|overload|contextmanager"
)
BARRED_NODES = (
    ast.With, ast.Match, ast.Global, ast.Nonlocal, ast.Yield, ast.YieldFrom, ast.AsyncFunctionDef, ast.Await,
    ast.GeneratorExp, ast.NamedExpr, ast.Div, ast.Import,
)
BUILTINS = set(
    "len range enumerate zip min max sum abs sorted reversed int str bool bytes list tuple dict set frozenset isinstance"
    " ord repr any all divmod Exception ValueError TypeError KeyError IndexError LookupError ZeroDivisionError"
    " ArithmeticError OverflowError RuntimeError NotImplementedError AttributeError StopIteration".split()
)


def files():
    return sorted(FOLDER.glob("*.py"))


def nodes_of(path):
    return list(ast.walk(ast.parse(path.read_text())))


def bound_names(nodes):
    names = [node.id for node in nodes if isinstance(node, ast.Name) and not isinstance(node.ctx, ast.Load)]
    names += [node.name for node in nodes if isinstance(node, (ast.FunctionDef, ast.ClassDef))]
    names += [node.arg for node in nodes if isinstance(node, ast.arg)]
    return names + [alias.name for node in nodes if isinstance(node, ast.ImportFrom) for alias in node.names]


def defined_names(path):
    names = []
    for node in ast.parse(path.read_text()).body:
        if isinstance(node, (ast.FunctionDef, ast.ClassDef)):
            names.append(node.name)
        if isinstance(node, ast.Assign):
            names += [target.id for target in node.targets]
    return names


def sources_of(path):
    """The files that a file imports from."""
    return {
        FOLDER / (node.module.partition(".")[2] + ".py") for node in nodes_of(path) if isinstance(node, ast.ImportFrom)
    }


def local_names(path):
    """The parameters and local variables of all functions of a file."""
    functions = [node for node in nodes_of(path) if isinstance(node, ast.FunctionDef)]
    inner = [node for function in functions for node in ast.walk(function)]
    names = {node.id for node in inner if isinstance(node, ast.Name) and not isinstance(node.ctx, ast.Load)}
    return names | {node.arg for node in inner if isinstance(node, ast.arg)}


class LanguageTest(unittest.TestCase):
    def test_the_folder_holds_plain_files_only(self):
        names = [path.name for path in FOLDER.iterdir() if path.name != "__pycache__"]
        self.assertIn("__init__.py", names)
        for name in names:
            self.assertRegex(name, r"^[a-z0-9_]+\.py$")

    def test_characters_and_sizes(self):
        for path in files():
            text = path.read_text()
            self.assertRegex(text, r"\A[\n -~]*\Z")
            self.assertLessEqual(len(text.splitlines()), 400)
            self.assertLessEqual(max([len(line) for line in text.splitlines()]), 120)
            self.assertIsNone(BARRED_WORDS.search(text))

    def test_functions_are_short_and_plain(self):
        for path in files():
            for node in nodes_of(path):
                if isinstance(node, ast.FunctionDef):
                    self.assertLessEqual(node.end_lineno - node.lineno + 1, 40, node.name)
                    self.assertEqual(node.decorator_list, [])
                    self.assertIsNone(node.args.vararg or node.args.kwarg)

    def test_nodes_that_are_barred(self):
        for path in files():
            for node in nodes_of(path):
                self.assertNotIsInstance(node, BARRED_NODES)
                if isinstance(node, ast.Constant):
                    self.assertNotIsInstance(node.value, (float, complex))
                    self.assertFalse(isinstance(node.value, str) and "%" in node.value)

    def test_imports_name_the_file_that_defines_the_name(self):
        for path in files():
            for node in nodes_of(path):
                if isinstance(node, ast.ImportFrom):
                    self.assertRegex(node.module, r"^brimyard\.[a-z0-9_]+$")
                    source = FOLDER / (node.module.partition(".")[2] + ".py")
                    for alias in node.names:
                        self.assertIn(alias.name, defined_names(source))

    def test_names(self):
        for path in files():
            nodes = nodes_of(path)
            bound = bound_names(nodes)
            for name in bound:
                self.assertRegex(name, r"^[A-Za-z][A-Za-z0-9_]*$|^__init__$")
                self.assertNotIn(name, vars(builtins))
            for node in nodes:
                if isinstance(node, ast.Name) and isinstance(node.ctx, ast.Load):
                    self.assertTrue(node.id in bound or node.id in BUILTINS, node.id)

    def test_no_files_import_from_each_other(self):
        known = set()
        while len(known) < len(files()):
            free = [path for path in files() if path not in known and sources_of(path) <= known]
            self.assertTrue(free, "files import from each other")
            known |= set(free)

    def test_no_local_has_the_name_of_an_import_or_a_class(self):
        for path in files():
            nodes = nodes_of(path)
            names = {alias.name for node in nodes if isinstance(node, ast.ImportFrom) for alias in node.names}
            names |= {node.name for node in nodes if isinstance(node, ast.ClassDef)}
            self.assertEqual(names & local_names(path), set())

    def test_no_name_is_a_method_and_an_attribute(self):
        methods = set()
        attributes = set()
        for path in files():
            for node in nodes_of(path):
                if isinstance(node, ast.ClassDef):
                    methods |= {inner.name for inner in node.body if isinstance(inner, ast.FunctionDef)}
                if isinstance(node, ast.Attribute) and isinstance(node.ctx, ast.Store):
                    attributes.add(node.attr)
        self.assertEqual(methods & attributes, set())

    def test_is_only_with_none_true_and_false(self):
        for path in files():
            for node in nodes_of(path):
                if isinstance(node, ast.Compare) and isinstance(node.ops[0], (ast.Is, ast.IsNot)):
                    self.assertIn(ast.unparse(node.comparators[0]), ["None", "True", "False"])


if __name__ == "__main__":
    unittest.main()
