"""The package keeps to the small part of Python that it is written in, as far as this is seen at a glance."""

import ast
import pathlib
import re
import unittest

PACKAGE = pathlib.Path(__file__).resolve().parent.parent / "keyrooms"

OWN_NAMES = set("""len range enumerate zip min max sum abs sorted reversed int str bool bytes list tuple dict set
    frozenset isinstance ord repr any all divmod Exception ValueError TypeError KeyError IndexError LookupError
    ZeroDivisionError ArithmeticError OverflowError RuntimeError NotImplementedError AttributeError StopIteration
    """.split())

# In annotations these may stand too, and in the one file that is run by itself what it reads and prints with.
FURTHER_NAMES = {"object", "float", "print", "sys", "__name__"}

UNDERSCORED = {"__init__", "__eq__", "__repr__", "__str__", "__len__", "__all__", "__version__"}

METHODS = set("""append clear copy count endswith extend find get index insert isalnum isalpha isdigit islower isspace
    isupper items join keys ljust lower lstrip partition pop remove replace reverse rfind rjust rpartition rsplit
    rstrip setdefault split splitlines startswith strip update upper values zfill bit_length add discard sort
    title capitalize swapcase casefold center expandtabs removeprefix removesuffix rindex isascii isdecimal isnumeric
    istitle isidentifier isprintable translate maketrans encode decode hex fromhex to_bytes from_bytes exit read
    readline write""".split())

BARRED = (ast.GeneratorExp, ast.With, ast.Global, ast.Nonlocal, ast.Yield, ast.YieldFrom, ast.AsyncFunctionDef,
          ast.NamedExpr, ast.Match, ast.Div, ast.Await)

WORDS = re.compile(r"\b(type|typing|enum|Enum|Flag|Generic|Protocol|ABC|namedtuple|NamedTuple|TypedDict)\b|dataclass")


def sources():
    """Each file of the package with its text and its tree."""
    for path in sorted(PACKAGE.glob("*.py")):
        text = path.read_text(encoding="utf-8")
        yield path.name, text, ast.parse(text)


def bound_names(tree):
    """Every name that a file gives itself."""
    names = set()
    for node in ast.walk(tree):
        if isinstance(node, ast.Name) and not isinstance(node.ctx, ast.Load):
            names.add(node.id)
        if isinstance(node, (ast.FunctionDef, ast.ClassDef)):
            names.add(node.name)
        if isinstance(node, ast.arg):
            names.add(node.arg)
        if isinstance(node, ast.ImportFrom):
            names.update(alias.asname or alias.name for alias in node.names)
        if isinstance(node, ast.ExceptHandler) and node.name:
            names.add(node.name)
    return names


class Language(unittest.TestCase):

    def test_nothing_but_files_of_python(self):
        others = [path.name for path in PACKAGE.iterdir() if path.suffix != ".py" and path.name != "__pycache__"]
        self.assertEqual(others, [])
        self.assertTrue((PACKAGE / "__init__.py").is_file())

    def test_sizes_and_signs(self):
        for name, text, tree in sources():
            lines = text.split("\n")
            self.assertLessEqual(len(lines), 401, name)
            self.assertLessEqual(max(len(line) for line in lines), 120, name)
            self.assertEqual([sign for sign in text if not (" " <= sign <= "~" or sign == "\n")], [], name)
            self.assertIsNone(WORDS.search(text), name)
            for node in ast.walk(tree):
                if isinstance(node, ast.FunctionDef):
                    self.assertLessEqual(node.end_lineno - node.lineno + 1, 40, f"{name}: {node.name}")

    def test_statements_and_values(self):
        for name, text, tree in sources():
            for node in ast.walk(tree):
                self.assertNotIsInstance(node, BARRED, name)
                if isinstance(node, ast.Constant):
                    self.assertNotIsInstance(node.value, (float, complex), name)
                    self.assertNotIn("%", node.value if isinstance(node.value, str) else "", name)
                if isinstance(node, (ast.For, ast.While)):
                    self.assertEqual(node.orelse, [], name)
                if isinstance(node, ast.FunctionDef):
                    self.assertEqual(node.decorator_list, [], name)
                    self.assertIsNone(node.args.vararg or node.args.kwarg, name)
                if isinstance(node, ast.ImportFrom):
                    self.assertEqual(node.level, 0, name)
                    self.assertTrue(node.module == "__future__" or node.module.startswith("keyrooms."), name)
                if isinstance(node, ast.Import):
                    self.assertEqual((name, [alias.name for alias in node.names]), ("__main__.py", ["sys"]))

    def test_names(self):
        for name, text, tree in sources():
            bound = bound_names(tree)
            self.assertEqual(bound & OWN_NAMES, set(), name)
            self.assertEqual([word for word in sorted(bound - UNDERSCORED) if word.startswith("_")], [], name)
            read = {node.id for node in ast.walk(tree) if isinstance(node, ast.Name)}
            self.assertEqual(read - bound - OWN_NAMES - FURTHER_NAMES, set(), name)

    def test_methods(self):
        own = set()
        for name, text, tree in sources():
            for node in ast.walk(tree):
                if isinstance(node, ast.ClassDef):
                    own.update(part.name for part in node.body if isinstance(part, ast.FunctionDef))
        for name, text, tree in sources():
            called = {node.func.attr for node in ast.walk(tree)
                      if isinstance(node, ast.Call) and isinstance(node.func, ast.Attribute)}
            self.assertEqual(called - METHODS - own, set(), name)


if __name__ == "__main__":
    unittest.main()
