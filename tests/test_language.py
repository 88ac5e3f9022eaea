"""The rules of the language that can be read off the package's files, and where the interface is defined."""

import ast
import builtins
import re
import unittest
from pathlib import Path

PACKAGE = Path(__file__).resolve().parent.parent / "potround"
FILES = sorted(PACKAGE.glob("*.py"))
TREES = {path.stem: ast.parse(path.read_text(encoding="ascii")) for path in FILES}

INTERFACE = {
    "errors": ["HallError", "BadTally", "Never", "Full", "BadRow", "NoSuch"],
    "palettes": ["is_palette", "is_kinds", "colour_row", "wash_for", "ready_at"],
    "tallies": ["tally_of", "tally_hours", "both_tally", "either_tally", "turned_tally"],
    "ordering": ["washing_of", "least_washing"],
    "turns": ["is_turns", "fault_of", "state_at", "stretches", "hours_in", "spare_of"],
    "rounds": ["is_rows", "steps_of"],
    "timetables": ["Timetable", "keeps", "is_ring"],
    "endless": ["timed", "shortest"],
    "rounding": ["round_state", "turns_of", "glass_in"],
    "breaking": ["broken", "shows_broken", "last_warm"],
    "gathering": ["served"],
    "gathercheck": ["shows_rows", "shows_lack"],
    "working": ["offers_of", "wants_of", "worked_by"],
    "sharing": ["shared", "shows_share", "lack_by", "wanted_of"],
    "cooling": ["in_at", "most_in", "slotted", "most_cooled", "bound_by", "shows_cooled"],
    "tunnels": ["Tunnel"],
    "deeds": ["is_deed"],
    "book": ["Book"],
    "accounts": ["Account"],
    "texts": ["book_text", "book_from"],
    "desk": ["run"],
}
METHODS = {
    "Timetable": ["__init__", "pair", "__len__", "__eq__", "__repr__", "__str__"],
    "Tunnel": ["__init__", "enter", "tick", "inside", "now", "slot_of", "__len__", "__eq__"],
    "Book": ["__init__", "enter", "put_right", "strike", "undo", "entries", "told_times", "as_told", "twin", "__len__",
             "__eq__"],
    "Account": ["__init__", "rows", "voids", "state", "glass", "pieces", "tunnel", "sums", "lacking"],
}

BUILTINS = set("""len range enumerate zip min max sum abs sorted reversed int str bool bytes list tuple dict set
    isinstance ord repr any all divmod super ValueError KeyError IndexError LookupError ZeroDivisionError""".split())
BARRED = set("""type typing enum Enum Flag Generic Protocol ABC namedtuple NamedTuple TypedDict register mro elements
    open input law""".split())
STATEMENTS = (ast.Assign, ast.AugAssign, ast.If, ast.While, ast.For, ast.Return, ast.Break, ast.Continue, ast.Pass,
              ast.Raise, ast.Expr, ast.FunctionDef, ast.ClassDef, ast.ImportFrom, ast.Try)


def nodes(kind):
    return [(stem, node) for stem, tree in TREES.items() for node in ast.walk(tree) if isinstance(node, kind)]


def bound_names(tree):
    """All names that a file binds, as targets, parameters, functions, classes or imports."""
    names = set()
    for node in ast.walk(tree):
        if isinstance(node, ast.Name) and isinstance(node.ctx, ast.Store):
            names.add(node.id)
        elif isinstance(node, ast.arg):
            names.add(node.arg)
        elif isinstance(node, (ast.FunctionDef, ast.ClassDef)):
            names.add(node.name)
        elif isinstance(node, ast.alias):
            names.add(node.asname or node.name)
    return names


class Language(unittest.TestCase):
    def test_folder_holds_files_of_python_alone(self):
        for path in PACKAGE.iterdir():
            if path.name != "__pycache__":
                self.assertEqual(path.suffix, ".py")
                self.assertRegex(path.stem, r"^([a-z][a-z0-9_]*|__init__)$")
        self.assertIn("__init__", TREES)

    def test_characters_and_sizes(self):
        for path in FILES:
            lines = path.read_text(encoding="ascii").split("\n")
            self.assertLessEqual(len(lines), 399, path)
            for line in lines:
                self.assertRegex(line, r"^[ -~]{0,120}$", path)
        for stem, node in nodes(ast.FunctionDef):
            self.assertLessEqual(node.end_lineno - node.lineno + 1, 40, (stem, node.name))

    def test_barred_words(self):
        for path in FILES:
            words = set(re.findall(r"[A-Za-z_]+", path.read_text(encoding="ascii")))
            self.assertEqual(words & BARRED, set(), path)

    def test_statements(self):
        for stem, node in nodes(ast.stmt):
            self.assertIsInstance(node, STATEMENTS, (stem, node.lineno))

    def test_own_errors_alone_are_caught(self):
        for stem, node in nodes(ast.ExceptHandler):
            self.assertIn(node.type.id, INTERFACE["errors"], stem)

    def test_imports(self):
        for stem, node in nodes((ast.Import, ast.ImportFrom)):
            self.assertIsInstance(node, ast.ImportFrom, stem)
            self.assertEqual(node.level, 0, stem)
            home = node.module.removeprefix("potround.")
            defined = [row.name for row in TREES[home].body if isinstance(row, (ast.FunctionDef, ast.ClassDef))]
            for name in node.names:
                self.assertIn(name.name, defined, stem)

    def test_module_level(self):
        for stem, tree in TREES.items():
            self.assertIsNotNone(ast.get_docstring(tree), stem)
            for row in tree.body[1:]:
                self.assertIsInstance(row, (ast.ImportFrom, ast.FunctionDef, ast.ClassDef, ast.Assign), stem)
                if isinstance(row, ast.Assign):
                    ast.literal_eval(row.value)

    def test_names(self):
        for stem, tree in TREES.items():
            bound = bound_names(tree)
            for name in bound:
                self.assertTrue(not name.startswith("_") or name in ("__init__", "__eq__", "__repr__", "__str__",
                                                                    "__len__"), (stem, name))
                self.assertNotIn(name, dir(builtins), stem)
            read = {node.id for node in ast.walk(tree) if isinstance(node, ast.Name)}
            self.assertEqual(read - bound - BUILTINS, set(), stem)

    def test_methods_and_attributes(self):
        methods = {row.name for stem, node in nodes(ast.ClassDef) for row in node.body if isinstance(row, ast.FunctionDef)}
        stored = {node.attr for stem, node in nodes(ast.Attribute) if isinstance(node.ctx, ast.Store)}
        called = {id(node.func) for stem, node in nodes(ast.Call)}
        self.assertEqual(methods & stored, set())
        for stem, node in nodes(ast.Attribute):
            if isinstance(node.ctx, ast.Load) and id(node) not in called:
                self.assertIn(node.attr, stored, stem)

    def test_expressions(self):
        for stem, node in nodes((ast.GeneratorExp, ast.Div, ast.Await, ast.Yield, ast.NamedExpr, ast.Starred)):
            self.fail((stem, node))
        for stem, node in nodes(ast.Constant):
            self.assertNotIsInstance(node.value, (float, complex), stem)
            if isinstance(node.value, str):
                self.assertNotIn("%", node.value, stem)
        for stem, node in nodes(ast.Compare):
            for sign, other in zip(node.ops, node.comparators):
                if isinstance(sign, (ast.Is, ast.IsNot)):
                    self.assertIn(getattr(other, "value", other), (None, True, False), stem)


class Interface(unittest.TestCase):
    def test_each_is_defined_in_its_own_file(self):
        for stem, names in INTERFACE.items():
            defined = [row.name for row in TREES[stem].body if isinstance(row, (ast.FunctionDef, ast.ClassDef))]
            self.assertEqual(set(names) - set(defined), set(), stem)

    def test_each_method_is_defined_in_its_class(self):
        classes = {node.name: node for stem, node in nodes(ast.ClassDef)}
        for name, methods in METHODS.items():
            defined = [row.name for row in classes[name].body if isinstance(row, ast.FunctionDef)]
            self.assertEqual(set(methods) - set(defined), set(), name)


if __name__ == "__main__":
    unittest.main()
