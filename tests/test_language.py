"""The rules of the language subset that a look at the sources can find broken, by their numbers there."""

import ast
import builtins
import io
import os
import re
import tokenize
import unittest

import faceonface

FOLDER = os.path.dirname(faceonface.__file__)
ALLOWED = set(
    "len range enumerate zip min max sum abs sorted reversed int str bool list tuple dict set isinstance ord repr any all"
    " divmod Exception ValueError TypeError KeyError IndexError LookupError ZeroDivisionError ArithmeticError"
    " OverflowError RuntimeError NotImplementedError".split())
METHODS = set(
    "append clear copy count endswith extend find get index insert isalnum isalpha isdigit islower isspace isupper items"
    " join keys ljust lower lstrip partition pop remove replace reverse rfind rjust rpartition rsplit rstrip setdefault"
    " split splitlines startswith strip update upper values zfill bit_length sort add discard __init__".split())
BARRED = re.compile(
    r"\b(type|typing|typing_extensions|enum|Enum|IntEnum|StrEnum|Flag|IntFlag|Generic|Protocol|ABC|ABCMeta|namedtuple"
    r"|NamedTuple|TypedDict|TYPE_CHECKING|abstractmethod)\b|dataclass|overload|contextmanager")
NEVER = set("register mro elements open input version_info with_traceback add_note format format_map".split())
NO_NODES = (ast.Global, ast.AsyncFunctionDef, ast.Await, ast.Import, ast.Div)


def sources():
    """A list of (file name, text, tree) of the package."""
    told = []
    for name in sorted(os.listdir(FOLDER)):
        if name.endswith(".py"):
            with open(os.path.join(FOLDER, name), encoding="utf-8") as file:
                text = file.read()
            told.append((name, text, ast.parse(text)))
    return told


def nodes(kinds):
    """All nodes of the package of some kinds, each with the name of its file."""
    return [(name, node) for name, _, tree in sources() for node in ast.walk(tree) if isinstance(node, kinds)]


def bound(tree):
    """The names that a module binds itself, in a list."""
    told = []
    for node in tree.body:
        if isinstance(node, (ast.FunctionDef, ast.ClassDef)):
            told.append(node.name)
        elif isinstance(node, ast.Assign):
            told += [target.id for target in node.targets]
    return told


def imported(tree):
    return [(node.module, alias.name) for node in tree.body if isinstance(node, ast.ImportFrom) for alias in node.names]


class Files(unittest.TestCase):
    def test_nothing_but_sources(self):
        for name in os.listdir(FOLDER):
            if name != "__pycache__":
                self.assertRegex(name, r"^(__init__|[a-z][a-z0-9_]*)\.py$")

    def test_lines_and_signs(self):
        for name, text, _ in sources():
            self.assertLessEqual(len(text.splitlines()), 400, name)
            self.assertRegex(text, r"^[ -~\n]*$", name)
            for line in text.splitlines():
                self.assertLessEqual(len(line), 120, f"{name}: {line}")
            self.assertIsNone(BARRED.search(text), name)

    def test_strings(self):
        for name, text, _ in sources():
            for token in tokenize.generate_tokens(io.StringIO(text).readline):
                if tokenize.tok_name[token.type] in ("STRING", "FSTRING_MIDDLE"):
                    self.assertNotIn("%", token.string, name)
                    self.assertNotRegex(token.string, r"\\[^nt\\\"']", name)


class Modules(unittest.TestCase):
    def test_module_level(self):
        for name, _, tree in sources():
            for node in tree.body:
                if isinstance(node, ast.Expr):
                    self.assertIsInstance(node.value, ast.Constant, name)
                else:
                    self.assertIsInstance(node, (ast.ImportFrom, ast.FunctionDef, ast.ClassDef, ast.Assign), name)

    def test_imports_name_the_very_file(self):
        trees = {f"faceonface.{name[:-3]}": tree for name, _, tree in sources()}
        for name, _, tree in sources():
            for module, wanted in imported(tree):
                self.assertIn(wanted, bound(trees[module]), name)

    def test_each_name_bound_once(self):
        for name, _, tree in sources():
            names = bound(tree) + [wanted for _, wanted in imported(tree)]
            self.assertEqual(len(names), len(set(names)), name)

    def test_every_import_is_used(self):
        for name, _, tree in sources():
            used = {node.id for node in ast.walk(tree) if isinstance(node, ast.Name)}
            self.assertEqual([wanted for _, wanted in imported(tree) if wanted not in used], [], name)


class Code(unittest.TestCase):
    def test_functions(self):
        for name, node in nodes(ast.FunctionDef):
            self.assertLessEqual(node.end_lineno - node.lineno + 1, 40, f"{name}: {node.name}")
            self.assertEqual(node.decorator_list, [], name)
            self.assertEqual(node.args.posonlyargs, [], name)
            self.assertIsNotNone(ast.get_docstring(node) or node.name == "__init__" or None, f"{name}: {node.name}")

    def test_no_other_statements_and_values(self):
        for name, node in nodes(NO_NODES):
            self.fail(f"{name}:{getattr(node, 'lineno', '')} {type(node).__name__}")
        for name, node in nodes(ast.Constant):
            self.assertIsInstance(node.value, (int, str, type(None)), name)

    def test_names(self):
        for name, _, tree in sources():
            taken = {wanted for _, wanted in imported(tree)}
            taken |= {node.name for node in tree.body if isinstance(node, ast.ClassDef)}
            for node in ast.walk(tree):
                if isinstance(node, (ast.Name, ast.arg)):
                    word = node.arg if isinstance(node, ast.arg) else node.id
                    binds = isinstance(node, ast.arg) or isinstance(node.ctx, ast.Store)
                    self.assertRegex(word, r"^[A-Za-z]", name)
                    self.assertNotIn(word, NEVER, name)
                    if binds:
                        self.assertNotIn(word, taken, f"{name}: {word} has two meanings")
                    if hasattr(builtins, word):
                        self.assertTrue(word in ALLOWED and not binds, f"{name}: {word}")

    def test_attributes(self):
        methods = {node.name for _, node in nodes(ast.FunctionDef)}
        assigned = {node.attr for _, node in nodes(ast.Attribute) if isinstance(node.ctx, ast.Store)}
        in_classes = {part.name for _, node in nodes(ast.ClassDef) for part in node.body if isinstance(part, ast.FunctionDef)}
        self.assertEqual(sorted(assigned & in_classes), [])
        for name, node in nodes(ast.Attribute):
            self.assertIn(node.attr, METHODS | methods | assigned, name)
            self.assertNotIn(node.attr, NEVER, name)

    def test_is_with_none_and_truths_alone(self):
        for name, node in nodes(ast.Compare):
            for sign, right in zip(node.ops, node.comparators):
                if isinstance(sign, (ast.Is, ast.IsNot)):
                    self.assertIn(getattr(right, "value", "no"), (None, True, False), name)

    def test_classes_have_plain_methods(self):
        for name, node in nodes(ast.ClassDef):
            for part in node.body:
                if isinstance(part, ast.FunctionDef) and part.name.startswith("_"):
                    self.assertEqual(part.name, "__init__", name)
