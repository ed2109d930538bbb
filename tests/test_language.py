"""Those rules of LANGUAGE.md that are plainly seen in the files of the package."""

import ast
import pathlib
import re
import unittest

PACKAGE = pathlib.Path(__file__).resolve().parent.parent / "stickbodies"
BUILTINS = """len range enumerate zip min max sum abs sorted reversed int str bool bytes list tuple dict set frozenset
    isinstance ord repr any all divmod Exception ValueError TypeError KeyError IndexError LookupError
    ZeroDivisionError ArithmeticError OverflowError RuntimeError NotImplementedError AttributeError StopIteration
    NotImplemented object""".split()
METHODS = """append clear copy count endswith extend find get index insert isalnum isalpha isdigit islower isspace isupper
    items join keys ljust lower lstrip partition pop remove replace reverse rfind rjust rpartition rsplit rstrip
    setdefault split splitlines startswith strip update upper values zfill bit_length add discard sort""".split()
BARRED = """type typing typing_extensions enum Enum IntEnum StrEnum Flag IntFlag Generic Protocol ABC ABCMeta namedtuple
    NamedTuple TypedDict TYPE_CHECKING abstractmethod""".split()
UNUSED = """register mro elements open input version_info with_traceback add_note format format_map""".split()
TOP = (ast.ImportFrom, ast.FunctionDef, ast.ClassDef, ast.Assign, ast.Expr)
NEVER = (ast.Import, ast.Global, ast.AsyncFunctionDef, ast.AsyncFor, ast.AsyncWith, ast.Await, ast.Div, ast.MatMult)


def sources():
    return [path for path in sorted(PACKAGE.rglob("*")) if path.is_file() and "__pycache__" not in path.parts]


def bound_names(tree):
    """Every name that a file binds anywhere."""
    names = set()
    for node in ast.walk(tree):
        if isinstance(node, (ast.FunctionDef, ast.ClassDef)):
            names.add(node.name)
        elif isinstance(node, ast.arg):
            names.add(node.arg)
        elif isinstance(node, ast.alias):
            names.add(node.asname or node.name)
        elif isinstance(node, ast.Name) and not isinstance(node.ctx, ast.Load):
            names.add(node.id)
        elif isinstance(node, ast.ExceptHandler) and node.name:
            names.add(node.name)
    return names


def top_names(tree):
    """What a file defines itself at module level."""
    names = {node.name for node in tree.body if isinstance(node, (ast.FunctionDef, ast.ClassDef))}
    return names | {target.id for node in tree.body if isinstance(node, ast.Assign) for target in node.targets}


class Language(unittest.TestCase):
    def setUp(self):
        self.texts = {path: path.read_bytes().decode("utf-8") for path in sources()}
        self.trees = {path: ast.parse(text) for path, text in self.texts.items()}

    def nodes(self):
        for path, tree in self.trees.items():
            for node in ast.walk(tree):
                yield f"{path.name}:{getattr(node, 'lineno', 0)}", node

    def test_files(self):
        self.assertIn("__init__.py", [path.name for path in self.texts])
        for path in self.texts:
            self.assertEqual(path.parent, PACKAGE)
            self.assertRegex(path.name, r"^([a-z][a-z0-9_]*|__init__|__main__)\.py$")

    def test_characters_and_size(self):
        for path, text in self.texts.items():
            lines = text.split("\n")
            self.assertIsNone(re.search(r"[^ -~\n]", text), path.name)
            self.assertLessEqual(len(lines), 400, path.name)
            self.assertLessEqual(max(map(len, lines)), 120, path.name)

    def test_functions_are_short(self):
        for where, node in self.nodes():
            if isinstance(node, ast.FunctionDef):
                self.assertLessEqual(node.end_lineno - node.lineno + 1, 40, where)

    def test_barred_words(self):
        for path, text in self.texts.items():
            self.assertEqual([word for word in re.findall(r"[A-Za-z_]\w*", text) if word in BARRED], [], path.name)
            self.assertIsNone(re.search("dataclass|overload|contextmanager", text), path.name)

    def test_module_level(self):
        for path, tree in self.trees.items():
            for node in tree.body:
                self.assertIsInstance(node, TOP, path.name)
                if isinstance(node, ast.Expr):
                    self.assertIs(node, tree.body[0], path.name)

    def test_imports_name_the_very_file_of_the_package(self):
        for path, tree in self.trees.items():
            for node in ast.walk(tree):
                if isinstance(node, ast.ImportFrom):
                    self.assertEqual(node.level, 0, path.name)
                    package, name = node.module.split(".")
                    self.assertEqual(package, "stickbodies", path.name)
                    defined = top_names(self.trees[PACKAGE / (name + ".py")])
                    for alias in node.names:
                        self.assertIn(alias.name, defined, path.name)

    def test_no_two_files_import_from_each_other(self):
        ahead = {path.stem: {node.module.split(".")[1] for node in tree.body if isinstance(node, ast.ImportFrom)}
                 for path, tree in self.trees.items()}
        while ahead:
            free = [name for name in ahead if not ahead[name]]
            self.assertTrue(free, ahead)
            ahead = {name: others - set(free) for name, others in ahead.items() if name not in free}

    def test_no_local_name_is_that_of_a_class_or_an_import(self):
        for path, tree in self.trees.items():
            top = {alias.name for node in tree.body if isinstance(node, ast.ImportFrom) for alias in node.names}
            top |= {node.name for node in tree.body if isinstance(node, ast.ClassDef)}
            for node in ast.walk(tree):
                if isinstance(node, ast.arg):
                    self.assertNotIn(node.arg, top, path.name)
                if isinstance(node, ast.Name) and not isinstance(node.ctx, ast.Load):
                    self.assertNotIn(node.id, top, path.name)

    def test_no_name_is_bound_twice_at_module_level(self):
        for path, tree in self.trees.items():
            names = [alias.name for node in tree.body if isinstance(node, ast.ImportFrom) for alias in node.names]
            names += [node.name for node in tree.body if isinstance(node, (ast.FunctionDef, ast.ClassDef))]
            names += [target.id for node in tree.body if isinstance(node, ast.Assign) for target in node.targets]
            self.assertEqual(sorted(names), sorted(set(names)), path.name)

    def test_no_name_is_a_method_and_an_attribute(self):
        methods, stored = set(), set()
        for _, node in self.nodes():
            if isinstance(node, ast.ClassDef):
                methods |= {inner.name for inner in node.body if isinstance(inner, ast.FunctionDef)}
            if isinstance(node, ast.Attribute) and isinstance(node.ctx, ast.Store):
                stored.add(node.attr)
        self.assertEqual(methods & stored, set())

    def test_nothing_that_is_never_allowed(self):
        for where, node in self.nodes():
            self.assertNotIsInstance(node, NEVER, where)
            if isinstance(node, ast.Constant):
                self.assertNotIsInstance(node.value, (float, complex), where)
                self.assertFalse(isinstance(node.value, str) and "%" in node.value, where)
            if isinstance(node, ast.Compare) and any(isinstance(op, (ast.Is, ast.IsNot)) for op in node.ops):
                self.assertTrue(all(isinstance(other, ast.Constant) for other in node.comparators), where)

    def test_names(self):
        for path, tree in self.trees.items():
            bound = bound_names(tree)
            for name in bound:
                self.assertTrue(name[0] != "_" or re.fullmatch(r"__\w+__", name), (path.name, name))
                self.assertNotIn(name, BUILTINS + UNUSED, path.name)
            for node in ast.walk(tree):
                if isinstance(node, ast.Name):
                    self.assertIn(node.id, bound | set(BUILTINS), f"{path.name}:{node.lineno}")

    def test_attributes(self):
        own = set()
        for _, node in self.nodes():
            if isinstance(node, ast.ClassDef):
                own |= {inner.name for inner in node.body if isinstance(inner, ast.FunctionDef)}
            if isinstance(node, ast.Attribute) and isinstance(node.ctx, ast.Store):
                own.add(node.attr)
        for where, node in self.nodes():
            if isinstance(node, ast.Attribute):
                self.assertIn(node.attr, own | set(METHODS), where)


if __name__ == "__main__":
    unittest.main()
