"""The interface, and the rules of LANGUAGE.md that a short look at the code can see.

Point 1 is tested here as far as it bars clocks, chance and files: the package imports nothing but itself.
"""

import ast
import builtins
import inspect
import re
import unittest
from pathlib import Path

from helperwire import asks, editor, helper, judging, plays, sheets, wire

FOLDER = Path(__file__).resolve().parent.parent / "helperwire"
FILES = sorted(FOLDER.glob("*.py"))

BUILTINS = set("""len range enumerate zip min max sum abs sorted reversed int str bool bytes list tuple dict set
frozenset isinstance ord repr any all divmod iter next super property staticmethod classmethod Exception ValueError
TypeError KeyError IndexError LookupError ZeroDivisionError ArithmeticError OverflowError RuntimeError
NotImplementedError AttributeError StopIteration NotImplemented""".split())
BARRED_WORDS = set("""type typing typing_extensions enum Enum IntEnum StrEnum Flag IntFlag Generic Protocol ABC ABCMeta
namedtuple NamedTuple TypedDict TYPE_CHECKING abstractmethod dataclass overload contextmanager""".split())
BARRED_NAMES = set("register mro elements open input version_info with_traceback add_note".split())
BARRED_NODES = (ast.Global, ast.AsyncFunctionDef, ast.Await, ast.Import, ast.Div)
METHODS = set("""append clear copy count endswith extend find get index insert isalnum isalpha isdigit islower isspace
isupper items join keys ljust lower lstrip partition pop remove replace reverse rfind rjust rpartition rsplit rstrip
setdefault split splitlines startswith strip update upper values zfill bit_length add discard sort __init__""".split())


def trees():
    for path in FILES:
        yield path, ast.parse(path.read_text())


def nodes(kind):
    for path, tree in trees():
        for node in ast.walk(tree):
            if isinstance(node, kind):
                yield path, node


def own_names():
    return {node.name for path, node in nodes((ast.FunctionDef, ast.ClassDef))}


def bound_names(path):
    """All names that a file binds itself, in whatever function."""
    tree = ast.parse(path.read_text())
    names = set()
    for node in ast.walk(tree):
        if isinstance(node, (ast.FunctionDef, ast.ClassDef)):
            names.add(node.name)
        elif isinstance(node, ast.arg):
            names.add(node.arg)
        elif isinstance(node, ast.alias):
            names.add(node.asname or node.name)
        elif isinstance(node, ast.Name) and not isinstance(node.ctx, ast.Load):
            names.add(node.id)
        elif isinstance(node, ast.ExceptHandler) and node.name:
            names.add(node.name)
    return names


class Interface(unittest.TestCase):
    def test_functions_and_their_arguments(self):
        wanted = ((sheets, "number_of", "sheet place"), (sheets, "place_of", "sheet number"),
                  (sheets, "edited", "sheet edits"), (sheets, "together", "sheet edits"),
                  (sheets, "back", "sheet edits"), (sheets, "moved", "sheet edits place"),
                  (asks, "answer_of", "sheet want"), (judging, "judge", "log"), (plays, "played", "steps"),
                  (plays, "written", "steps"), (plays, "read", "text"))
        for module, name, arguments in wanted:
            parameters = inspect.signature(getattr(module, name)).parameters
            self.assertEqual(" ".join(parameters), arguments, name)

    def test_methods_stand_in_their_classes(self):
        wanted = ((editor.Editor, "take_up file sheet, edit file edits, close file, call_off number, begun, take number, "
                                  "ask file want, hear letter, fallen, files, shown, along number, __init__"),
                  (helper.Helper, "__init__ birth, hear letter, waits, work number"),
                  (wire.Wire, "do deed, carry, bring, work at, fall, anew, settle, files, shown, told, along number, "
                              "__init__"))
        for owner, methods in wanted:
            for method in methods.split(", "):
                name, *arguments = method.split(" ")
                self.assertIn(name, vars(owner))
                parameters = inspect.signature(vars(owner)[name]).parameters
                self.assertEqual(list(parameters), ["self", *arguments], name)


class Language(unittest.TestCase):
    def test_l1_only_files_of_python(self):
        left = [path.name for path in FOLDER.iterdir() if path.suffix != ".py" and path.name != "__pycache__"]
        self.assertEqual(left, [])
        self.assertIn("__init__.py", [path.name for path in FILES])

    def test_l2_imports_of_the_package_only(self):
        for path, node in nodes((ast.Import, ast.ImportFrom)):
            self.assertIsInstance(node, ast.ImportFrom, path)
            self.assertEqual(node.level, 0)
            self.assertRegex(node.module, r"^helperwire\.[a-z]+$")
            self.assertNotIn("*", [alias.name for alias in node.names])

    def test_l16_names_come_from_the_file_that_defines_them(self):
        for path, node in nodes(ast.ImportFrom):
            source = ast.parse((FOLDER / (node.module.split(".")[1] + ".py")).read_text())
            defined = {item.name for item in source.body if isinstance(item, (ast.FunctionDef, ast.ClassDef))}
            defined |= {item.targets[0].id for item in source.body if isinstance(item, ast.Assign)}
            for alias in node.names:
                self.assertIn(alias.name, defined, path)

    def test_l6_barred_statements(self):
        self.assertEqual([(path.name, node.lineno) for path, node in nodes(BARRED_NODES) if hasattr(node, "lineno")], [])
        self.assertEqual([path.name for path, node in nodes(ast.Div)], [])

    def test_l8_builtins(self):
        for path, node in nodes(ast.Name):
            if node.id not in bound_names(path):
                self.assertIn(node.id, BUILTINS, (path.name, node.lineno))

    def test_l10_sizes(self):
        for path in FILES:
            lines = path.read_text().split("\n")
            self.assertLessEqual(len(lines), 400, path.name)
            self.assertLessEqual(max(len(line) for line in lines), 120, path.name)
        for path, node in nodes(ast.FunctionDef):
            self.assertLessEqual(node.end_lineno - node.lineno + 1, 40, node.name)

    def test_l12_and_l17_names(self):
        for path in FILES:
            for name in bound_names(path):
                self.assertRegex(name, r"^([A-Za-z][A-Za-z0-9_]*|__init__)$")
                self.assertNotIn(name, BARRED_NAMES)

    def test_l14_characters(self):
        for path in FILES:
            self.assertRegex(path.read_bytes().decode("ascii"), r"\A[ -~\n]*\Z", path.name)

    def test_l15_locals_hide_no_import_class_or_builtin(self):
        for path, tree in trees():
            hidden = set(dir(builtins))
            hidden |= {item.name for item in tree.body if isinstance(item, ast.ClassDef)}
            hidden |= {alias.asname or alias.name for node in ast.walk(tree) if isinstance(node, ast.ImportFrom)
                       for alias in node.names}
            for node in ast.walk(tree):
                if isinstance(node, ast.arg):
                    self.assertNotIn(node.arg, hidden, (path.name, node.lineno))
                if isinstance(node, ast.Name) and isinstance(node.ctx, ast.Store):
                    self.assertNotIn(node.id, hidden, (path.name, node.lineno))

    def test_l17_words(self):
        for path in FILES:
            words = set(re.findall(r"[A-Za-z0-9_]+", path.read_text()))
            self.assertEqual(words & BARRED_WORDS, set(), path.name)

    def test_l18_no_name_is_a_method_and_an_attribute(self):
        attributes = {node.attr for path, node in nodes(ast.Attribute) if isinstance(node.ctx, ast.Store)}
        methods = {item.name for path, node in nodes(ast.ClassDef) for item in node.body
                   if isinstance(item, ast.FunctionDef)}
        listed = set("""take_up edit close call_off begun take ask hear fallen files shown along waits work do carry
        bring fall anew settle told""".split())
        self.assertEqual(attributes & (methods | listed), set())

    def test_l18_attributes_are_assigned_through_local_names(self):
        for path, node in nodes(ast.Attribute):
            if isinstance(node.ctx, ast.Store):
                self.assertIsInstance(node.value, ast.Name, (path.name, node.lineno))

    def test_l18_attributes_that_are_read_are_assigned(self):
        assigned = {node.attr for path, node in nodes(ast.Attribute) if isinstance(node.ctx, ast.Store)}
        for path, node in nodes(ast.Attribute):
            self.assertIn(node.attr, assigned | METHODS | own_names(), (path.name, node.lineno))

    def test_l16_no_two_files_import_from_each_other(self):
        above = {path.stem: set() for path in FILES}
        for path, node in nodes(ast.ImportFrom):
            above[path.stem].add(node.module.split(".")[1])
        while above:
            free = [name for name in above if not above[name] & set(above)]
            self.assertNotEqual(free, [], above)
            for name in free:
                del above[name]

    def test_l20_is_only_with_none_true_and_false(self):
        for path, node in nodes(ast.Compare):
            for sign, right in zip(node.ops, node.comparators):
                if isinstance(sign, (ast.Is, ast.IsNot)):
                    self.assertIsInstance(right, ast.Constant, (path.name, node.lineno))
                    self.assertIn(right.value, (None, True, False))

    def test_l25_methods(self):
        allowed = METHODS | own_names()
        for path, node in nodes(ast.Call):
            if isinstance(node.func, ast.Attribute):
                self.assertIn(node.func.attr, allowed, (path.name, node.lineno))

    def test_l27_no_percent_sign(self):
        for path in FILES:
            self.assertNotIn(chr(37), path.read_text(), path.name)


if __name__ == "__main__":
    unittest.main()
