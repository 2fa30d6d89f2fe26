"""Some rules of the language that are easily broken: sizes, characters, barred words, imports, builtins."""

import ast
import builtins
import pathlib
import re
import unittest

FOLDER = pathlib.Path(__file__).resolve().parent.parent / "nameagain"
BARRED = ("type", "typing", "typing_extensions", "enum", "Enum", "IntEnum", "StrEnum", "Flag", "IntFlag", "Generic",
          "Protocol", "ABC", "ABCMeta", "namedtuple", "NamedTuple", "TypedDict", "TYPE_CHECKING", "abstractmethod")
ALLOWED = set("""len range enumerate zip min max sum abs sorted reversed int str bool bytes list tuple dict set frozenset
    isinstance ord repr any all divmod Exception ValueError TypeError KeyError IndexError LookupError ZeroDivisionError
    ArithmeticError OverflowError RuntimeError NotImplementedError AttributeError StopIteration NotImplemented iter next
    property staticmethod classmethod super""".split())


def bound(tree):
    """All names that a file gives a meaning."""
    for node in ast.walk(tree):
        if isinstance(node, ast.Name) and isinstance(node.ctx, ast.Store):
            yield node.id
        elif isinstance(node, ast.arg):
            yield node.arg
        elif isinstance(node, (ast.FunctionDef, ast.ClassDef)):
            yield node.name
        elif isinstance(node, ast.alias):
            yield node.asname or node.name


class Language(unittest.TestCase):
    def setUp(self):
        self.texts = {path.name: path.read_text("utf-8") for path in sorted(FOLDER.glob("*.py"))}
        self.trees = {name: ast.parse(text) for name, text in self.texts.items()}

    def test_only_python_files(self):
        for path in FOLDER.iterdir():
            if path.name != "__pycache__":
                self.assertRegex(path.name, r"^[a-z_0-9]+\.py$")

    def test_sizes(self):
        for name, text in self.texts.items():
            self.assertLess(len(text.splitlines()), 400, name)
            self.assertLessEqual(max(map(len, text.splitlines())), 120, name)
            for node in ast.walk(self.trees[name]):
                if isinstance(node, ast.FunctionDef):
                    self.assertLessEqual(node.end_lineno - node.lineno, 39, (name, node.name))

    def test_characters_and_words(self):
        for name, text in self.texts.items():
            self.assertTrue(all(sign == "\n" or " " <= sign <= "~" for sign in text), name)
            self.assertEqual([word for word in re.findall(r"\w+", text) if word in BARRED], [], name)
            for word in ("dataclass", "overload", "contextmanager"):
                self.assertNotIn(word, text, name)

    def test_strings(self):
        for name, tree in self.trees.items():
            for node in ast.walk(tree):
                if isinstance(node, ast.Constant) and isinstance(node.value, str):
                    self.assertNotIn("%", node.value, name)

    def test_imports(self):
        for name, tree in self.trees.items():
            for node in ast.walk(tree):
                self.assertNotIsInstance(node, (ast.Import, ast.Global, ast.AsyncFunctionDef), name)
                if isinstance(node, ast.ImportFrom):
                    self.assertRegex(node.module, r"^nameagain\.[a-z_]+$")
                    self.assertEqual((node.level, node.col_offset), (0, 0))

    def test_names(self):
        for name, tree in self.trees.items():
            names = list(bound(tree))
            doubled = ("__init__", "__eq__", "__len__")
            self.assertEqual([one for one in names if one.startswith("_") and one not in doubled], [], name)
            self.assertEqual([one for one in names if hasattr(builtins, one) and one not in doubled], [], name)

    def test_builtins(self):
        for name, tree in self.trees.items():
            names = {node.id for node in ast.walk(tree) if isinstance(node, ast.Name)}
            self.assertEqual([one for one in names if hasattr(builtins, one) and one not in ALLOWED], [], name)

    def test_names_of_methods_and_attributes(self):
        methods, attributes = set(), set()
        for tree in self.trees.values():
            for made in [node for node in ast.walk(tree) if isinstance(node, ast.ClassDef)]:
                methods |= {node.name for node in made.body if isinstance(node, ast.FunctionDef)}
                attributes |= {node.attr for node in ast.walk(made)
                               if isinstance(node, ast.Attribute) and isinstance(node.ctx, ast.Store)}
        self.assertEqual(methods & attributes, set())

    def test_names_of_imports_and_classes_mean_nothing_else(self):
        for name, tree in self.trees.items():
            kept = {alias.name for node in tree.body if isinstance(node, ast.ImportFrom) for alias in node.names}
            kept |= {node.name for node in tree.body if isinstance(node, ast.ClassDef)}
            for function in [node for node in ast.walk(tree) if isinstance(node, (ast.FunctionDef, ast.Lambda))]:
                inner = [node.id for node in ast.walk(function)
                         if isinstance(node, ast.Name) and isinstance(node.ctx, ast.Store)]
                inner += [node.arg for node in ast.walk(function) if isinstance(node, ast.arg)]
                self.assertEqual(kept & set(inner), set(), name)

    def test_one_lambda_on_a_line(self):
        for name, tree in self.trees.items():
            lines = [node.lineno for node in ast.walk(tree) if isinstance(node, ast.Lambda)]
            self.assertEqual(len(lines), len(set(lines)), name)

    def test_methods_of_builtin_values(self):
        """Each method that is called is one that the rules let, or the package's own."""
        let = set("""append clear copy count endswith extend find get index insert isalnum isalpha isdigit islower
            isspace isupper items join keys ljust lower lstrip partition pop remove replace reverse rfind rjust
            rpartition rsplit rstrip setdefault split splitlines startswith strip update upper values zfill
            bit_length""".split())
        own = {node.name for tree in self.trees.values() for made in tree.body if isinstance(made, ast.ClassDef)
               for node in made.body if isinstance(node, ast.FunctionDef)}
        for name, tree in self.trees.items():
            called = {node.func.attr for node in ast.walk(tree)
                      if isinstance(node, ast.Call) and isinstance(node.func, ast.Attribute)}
            self.assertEqual(called - let - own, set(), name)

    def test_no_generators_beside_own_equality(self):
        for name, tree in self.trees.items():
            self.assertFalse([node for node in ast.walk(tree) if isinstance(node, ast.GeneratorExp)], name)


if __name__ == "__main__":
    unittest.main()
