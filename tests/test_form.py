"""Some of the rules of LANGUAGE.md that a test can see: L1 to L4, L6, L8, L10, L12, L14 to L18, L20, L25 to L27."""

import ast
import builtins
import pathlib
import re
import unittest

PACKAGE = pathlib.Path(__file__).resolve().parent.parent / "evenbend"
FILES = sorted(PACKAGE.rglob("*.py"))
BUILTINS = """len range enumerate zip min max sum abs sorted reversed int str bool bytes list tuple dict set isinstance ord
    repr any all divmod pow super Exception ValueError TypeError KeyError IndexError LookupError ZeroDivisionError
    ArithmeticError OverflowError RuntimeError NotImplementedError AttributeError StopIteration""".split()
METHODS = """append clear copy count endswith extend find get index insert isalnum isalpha isdigit islower isspace isupper
    items join keys ljust lower lstrip partition pop remove replace reverse rfind rjust rpartition rsplit rstrip
    setdefault split splitlines startswith strip update upper values zfill bit_length title capitalize swapcase casefold
    center expandtabs removeprefix removesuffix rindex isascii isdecimal isnumeric istitle isidentifier isprintable""".split()
NEVER = """register mro elements open input law version_info with_traceback add_note type vars id dir eval exec compile
    globals locals help os sys gc exit quit""".split()
WORDS = """type typing typing_extensions enum Enum IntEnum StrEnum Flag IntFlag Generic Protocol ABC ABCMeta namedtuple
    NamedTuple TypedDict TYPE_CHECKING abstractmethod""".split()
MODULE_LEVEL = (ast.ImportFrom, ast.FunctionDef, ast.ClassDef, ast.Assign)
STATEMENTS = (ast.Global, ast.AsyncFunctionDef, ast.AsyncFor, ast.AsyncWith, ast.Await, ast.Import)


def nodes_of(path):
    return list(ast.walk(ast.parse(path.read_text())))


def bound_names(nodes):
    """The names that functions of the file give to parameters and variables."""
    names = [node.id for node in nodes if isinstance(node, ast.Name) and isinstance(node.ctx, ast.Store)]
    names += [node.name for node in nodes if isinstance(node, (ast.MatchAs, ast.MatchStar)) and node.name is not None]
    return names + [node.arg for node in nodes if isinstance(node, ast.arg)]


def defined_names(nodes):
    kinds = (ast.FunctionDef, ast.ClassDef)
    return [node.name for node in nodes if isinstance(node, kinds)]


def imported_names(nodes):
    return [name.name for node in nodes if isinstance(node, ast.ImportFrom) for name in node.names]


class FormTest(unittest.TestCase):
    def test_the_package_has_files(self):
        self.assertIn(PACKAGE / "__init__.py", FILES)

    def test_nothing_else_in_the_folder(self):
        for path in PACKAGE.rglob("*"):
            if "__pycache__" not in path.parts:
                self.assertEqual(path.suffix, ".py", path)

    def test_characters_and_lengths(self):
        for path in FILES:
            with self.subTest(path.name):
                text = path.read_bytes().decode("ascii")
                self.assertEqual([sign for sign in text if sign != "\n" and not " " <= sign <= "~"], [])
                lines = text.splitlines()
                self.assertLessEqual(len(lines), 399)
                self.assertLessEqual(max(map(len, lines)), 120)

    def test_functions_have_at_most_forty_lines(self):
        for path in FILES:
            for node in ast.walk(ast.parse(path.read_text())):
                if isinstance(node, ast.FunctionDef):
                    self.assertLessEqual(node.end_lineno - node.lineno + 1, 40, f"{path.name}: {node.name}")

    def test_imports_name_files_of_the_package(self):
        for path in FILES:
            for node in ast.walk(ast.parse(path.read_text())):
                self.assertNotIsInstance(node, ast.Import)
                if isinstance(node, ast.ImportFrom):
                    self.assertEqual(node.level, 0)
                    if node.module not in ("heapq", "math", "itertools", "collections"):
                        self.assertTrue(node.module.startswith("evenbend."), node.module)

    def test_no_floats_and_no_true_division(self):
        for path in FILES:
            for node in ast.walk(ast.parse(path.read_text())):
                self.assertNotIsInstance(node, ast.Div)
                if isinstance(node, ast.Constant):
                    self.assertNotIsInstance(node.value, float)

    def test_statements(self):
        for path in FILES:
            tree = ast.parse(path.read_text())
            for node in tree.body[1:]:
                self.assertIsInstance(node, MODULE_LEVEL, path.name)
            for node in ast.walk(tree):
                self.assertNotIsInstance(node, STATEMENTS, path.name)
                self.assertEqual(getattr(node, "decorator_list", []), [], path.name)

    def test_only_listed_builtins_and_methods(self):
        own = [name for path in FILES for name in defined_names(nodes_of(path))]
        for path in FILES:
            nodes = nodes_of(path)
            known = BUILTINS + bound_names(nodes) + defined_names(nodes) + imported_names(nodes)
            for node in nodes:
                if isinstance(node, ast.Name):
                    self.assertIn(node.id, known, path.name)
                if isinstance(node, ast.Call) and isinstance(node.func, ast.Attribute):
                    self.assertIn(node.func.attr, METHODS + own, path.name)

    def test_names_mean_one_thing(self):
        for path in FILES:
            nodes = nodes_of(path)
            classes = [node.name for node in nodes if isinstance(node, ast.ClassDef)]
            taken = set(classes + imported_names(nodes) + dir(builtins) + NEVER)
            self.assertEqual(taken & set(bound_names(nodes)), set(), path.name)
            for name in bound_names(nodes) + defined_names(nodes):
                self.assertNotIn(name, NEVER, path.name)
                self.assertTrue(not name.startswith("__") or name == "__init__", name)

    def test_is_stands_beside_none_true_and_false_alone(self):
        for path in FILES:
            for node in nodes_of(path):
                if isinstance(node, ast.Compare) and isinstance(node.ops[0], (ast.Is, ast.IsNot)):
                    self.assertIsInstance(node.comparators[0], ast.Constant, path.name)
                    self.assertIn(node.comparators[0].value, (None, True, False), path.name)

    def test_words_that_do_not_occur(self):
        for path in FILES:
            text = path.read_text()
            self.assertNotIn("_wall", text, path.name)
            self.assertNotIn("_WallAttr", text, path.name)
            for word in re.findall(r"\w+", text):
                self.assertNotIn(word, WORDS, path.name)

    def test_strings(self):
        for path in FILES:
            text = path.read_text()
            self.assertEqual(set(re.findall(r"\\.", text)) - {"\\n"}, set(), path.name)
            for node in nodes_of(path):
                if isinstance(node, ast.Constant) and isinstance(node.value, str):
                    self.assertNotIn("%", node.value, path.name)
                    self.assertNotIn("__", node.value, path.name)

    def test_names_are_imported_from_the_file_that_defines_them(self):
        for path in FILES:
            for node in nodes_of(path):
                if isinstance(node, ast.ImportFrom):
                    self.assertEqual([name.asname for name in node.names], [None] * len(node.names))
                    tree = ast.parse((PACKAGE.parent / (node.module.replace(".", "/") + ".py")).read_text())
                    own = defined_names(tree.body)
                    own += [node.targets[0].id for node in tree.body if isinstance(node, ast.Assign)]
                    for name in node.names:
                        self.assertIn(name.name, own, path.name)

    def test_names_are_bound_once_at_module_level_and_imports_are_used(self):
        for path in FILES:
            nodes = nodes_of(path)
            tree = ast.parse(path.read_text())
            imports = imported_names(nodes)
            bound = imports + defined_names(tree.body)
            bound += [target.id for node in tree.body if isinstance(node, ast.Assign) for target in node.targets]
            self.assertEqual(len(bound), len(set(bound)), path.name)
            read = [node.id for node in nodes if isinstance(node, ast.Name) and isinstance(node.ctx, ast.Load)]
            self.assertEqual(set(imports) - set(read), set(), path.name)

    def test_no_name_is_a_method_and_an_attribute(self):
        methods, attributes = [], []
        for path in FILES:
            for node in nodes_of(path):
                if isinstance(node, ast.ClassDef):
                    methods += defined_names(node.body)
                if isinstance(node, ast.Attribute) and isinstance(node.ctx, ast.Store):
                    attributes.append(node.attr)
        self.assertEqual(set(methods) & set(attributes), set())
        for value in (0, "", b"", [], (), {}, set()):
            self.assertEqual(set(attributes) & set(dir(value)), set())

    def test_no_file_imports_one_that_imports_it(self):
        imports = {}
        for path in FILES:
            froms = [node.module for node in nodes_of(path) if isinstance(node, ast.ImportFrom)]
            imports[f"evenbend.{path.stem}"] = [name for name in froms if name.startswith("evenbend.")]
        done = []
        while len(done) < len(imports):
            ready = [name for name in imports if name not in done and all(file in done for file in imports[name])]
            self.assertTrue(ready, "files import from each other")
            done += ready


if __name__ == "__main__":
    unittest.main()
