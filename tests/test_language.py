"""Tests of those rules of shared/LANGUAGE.md that a short look at the files can see."""

import ast
import builtins
import pathlib
import re
import unittest

PACKAGE = pathlib.Path(__file__).resolve().parent.parent / "wagerroom"

# L8, without chr (L27).
BUILTINS = set(
    "len range enumerate zip min max sum abs sorted reversed int str bool bytes list tuple dict set"
    " frozenset isinstance ord repr any all divmod iter next super property staticmethod classmethod"
    " Exception ValueError TypeError KeyError IndexError LookupError ZeroDivisionError ArithmeticError"
    " OverflowError RuntimeError NotImplementedError AttributeError StopIteration NotImplemented".split()
)

# L17.
BARRED = re.compile(
    r"\b(type|typing|typing_extensions|enum|Enum|IntEnum|StrEnum|Flag|IntFlag|Generic|Protocol|ABC|ABCMeta"
    r"|namedtuple|NamedTuple|TypedDict|TYPE_CHECKING|abstractmethod)\b|dataclass|overload|contextmanager"
)

# L25, and what stands behind the decorator of a property.
METHODS = set(
    "append clear copy count endswith extend find get index insert isalnum isalpha isdigit islower isspace"
    " isupper items join keys ljust lower lstrip partition pop remove replace reverse rfind rjust rpartition"
    " rsplit rstrip setdefault split splitlines startswith strip update upper values zfill bit_length"
    " title capitalize swapcase casefold center expandtabs removeprefix removesuffix rindex isascii isdecimal"
    " isnumeric istitle isidentifier isprintable add discard setter".split()
)


def methods_and_attributes():
    """The names of the methods, properties included, and of the assigned attributes of the package."""
    methods, attributes = set(), set()
    for _, _, tree in sources():
        for node in ast.walk(tree):
            if isinstance(node, ast.ClassDef):
                found = [row for row in node.body if isinstance(row, ast.FunctionDef)]
                plain = [row.name for row in found if not any(map(is_property, row.decorator_list))]
                methods.update(plain)
                attributes.update(row.name for row in found if row.name not in plain)
                attributes.update(row.targets[0].id for row in node.body if isinstance(row, ast.Assign))
            elif isinstance(node, ast.Attribute) and isinstance(node.ctx, ast.Store):
                attributes.add(node.attr)
    return methods, attributes


def is_property(decorator):
    return isinstance(decorator, ast.Attribute) or decorator.id == "property"


def sources():
    """Each file of the package with its text and its tree."""
    for path in sorted(PACKAGE.glob("*.py")):
        text = path.read_bytes().decode("utf-8")
        yield path.name, text, ast.parse(text)


class LanguageTest(unittest.TestCase):

    def test_the_folder_holds_only_python_files(self):
        others = [path.name for path in PACKAGE.iterdir() if not re.fullmatch(r"[a-z0-9_]+\.py", path.name)]
        self.assertEqual([name for name in others if name != "__pycache__"], [])
        self.assertTrue((PACKAGE / "__init__.py").is_file())

    def test_characters_and_lines(self):
        for name, text, _ in sources():
            with self.subTest(name):
                self.assertIsNone(re.search(r"[^\n -~]", text))
                self.assertLessEqual(text.count("\n"), 399)
                self.assertLessEqual(max(map(len, text.split("\n"))), 120)

    def test_functions_are_short(self):
        for name, _, tree in sources():
            for node in ast.walk(tree):
                if isinstance(node, ast.FunctionDef):
                    self.assertLessEqual(node.end_lineno - node.lineno + 1, 40, f"{name}: {node.name}")

    def test_barred_words(self):
        for name, text, _ in sources():
            self.assertIsNone(BARRED.search(text), name)

    def test_imports_are_from_the_package_at_the_top(self):
        for name, _, tree in sources():
            imports = [node for node in ast.walk(tree) if isinstance(node, (ast.Import, ast.ImportFrom))]
            for node in imports:
                self.assertIsInstance(node, ast.ImportFrom, name)
                self.assertEqual(node.level, 0, name)
                self.assertTrue(node.module.startswith("wagerroom."), f"{name}: {node.module}")
                self.assertIn(node, tree.body, name)

    def test_only_allowed_builtins(self):
        for name, _, tree in sources():
            for node in ast.walk(tree):
                if isinstance(node, ast.Name) and hasattr(builtins, node.id):
                    self.assertIn(node.id, BUILTINS, name)

    def test_names_do_not_begin_with_an_underscore(self):
        for name, _, tree in sources():
            for node in ast.walk(tree):
                for part in ("id", "attr", "arg", "name"):
                    found = getattr(node, part, None)
                    if isinstance(found, str) and found != "__init__":
                        self.assertRegex(found, r"^[A-Za-z][A-Za-z0-9_]*$", name)

    def test_attributes_are_assigned_by_the_package(self):
        methods, attributes = methods_and_attributes()
        for name, _, tree in sources():
            for node in ast.walk(tree):
                if isinstance(node, ast.Attribute):
                    self.assertIn(node.attr, methods | attributes | METHODS, name)

    def test_no_name_is_a_method_and_an_attribute(self):
        methods, attributes = methods_and_attributes()
        self.assertEqual(methods & attributes, set())

    def test_no_class_stores_an_attribute_that_is_a_property_of_another(self):
        properties, stored = {}, []
        for _, _, tree in sources():
            for kind in ast.walk(tree):
                if isinstance(kind, ast.ClassDef):
                    for node in ast.walk(kind):
                        if isinstance(node, ast.FunctionDef) and any(map(is_property, node.decorator_list)):
                            properties.setdefault(node.name, set()).add(kind.name)
                        if isinstance(node, ast.Attribute) and isinstance(node.ctx, ast.Store):
                            stored.append((node.attr, kind.name, {base.id for base in kind.bases}))
        self.assertEqual(set(properties), {"odds", "weights", "cases"})
        for name, kind, bases in stored:
            if name in properties:
                self.assertTrue(properties[name] & ({kind, "Observer", "Believer"} if bases else {kind}), name)

    def test_imports_and_classes_keep_their_names(self):
        for name, _, tree in sources():
            bound = [alias.name for node in tree.body if isinstance(node, ast.ImportFrom) for alias in node.names]
            bound += [node.name for node in tree.body if isinstance(node, (ast.ClassDef, ast.FunctionDef))]
            self.assertEqual(len(bound), len(set(bound)), name)
            for node in ast.walk(tree):
                if isinstance(node, ast.arg):
                    self.assertNotIn(node.arg, bound, name)
                if isinstance(node, ast.Name) and isinstance(node.ctx, ast.Store):
                    self.assertNotIn(node.id, bound, name)

    def test_no_escapes_and_no_percent_signs_in_strings(self):
        for name, _, tree in sources():
            for node in ast.walk(tree):
                if isinstance(node, ast.Constant) and isinstance(node.value, str):
                    self.assertNotRegex(node.value, r"[^\n -$&-~]", name)

    def test_no_floats_and_no_division(self):
        for name, _, tree in sources():
            for node in ast.walk(tree):
                self.assertNotIsInstance(node, ast.Div, name)
                if isinstance(node, ast.Constant):
                    self.assertNotIsInstance(node.value, (float, complex), name)


if __name__ == "__main__":
    unittest.main()
