"""The interface as the document lists it, the form of the package's files, and the README's examples."""

import ast
import doctest
import importlib
import inspect
import pathlib
import unittest

ROOT = pathlib.Path(__file__).resolve().parent.parent
PACKAGE = ROOT / "proseknot"

INTERFACE = {
    "errors": {
        "KnotError": None, "InvalidWeb": ("value",), "InvalidEdit": ("value",), "InvalidNumber": ("value",),
        "InvalidText": ("text", "at"), "InvalidLine": ("line", "at"), "NoPiece": ("name",), "NoText": ("name",),
        "NotWhole": ("fault",), "Refused": ("reason",), "Clash": ("reason",), "NothingToUndo": ("word",),
        "Undefined": ("what",),
    },
    "webs": {
        "is_web": ("value",), "piece_names": ("web",), "file_names": ("web",), "sections_of": ("web", "name"),
        "params_of": ("web", "name"), "code_of": ("web", "name"), "used_by": ("web", "name"),
        "users_of": ("web", "name"),
    },
    "webtext": {
        "web_text": ("web",), "read_web": ("text",), "line_starts": ("web",),
        "place_in": ("web", "section", "kind", "number", "column"), "told_at": ("web", "at"),
    },
    "order": {
        "faults": ("web",), "is_whole": ("web",), "circle_of": ("web", "name"), "circle_holds": ("web", "way"),
        "in_order": ("web",), "reached": ("web", "name"), "unreached": ("web",),
    },
    "slots": {"parts_of": ("line", "params"), "filled": ("line", "params", "arguments")},
    "tangling": {"tangled": ("web", "name"), "springs": ("web", "name"), "places_of": ("web", "at")},
    "weaving": {
        "woven": ("web",), "woven_springs": ("web",), "text_names": ("web",), "text_of": ("web", "name"),
    },
    "edits": {
        "is_edit": ("value",), "edited": ("text", "edit"), "is_paper": ("value",), "changed_by": ("texts", "paper"),
        "shifted": ("edit", "paper", "name"),
    },
    "backing": {
        "gone_back": ("web", "name", "edit"), "back_edit": ("web", "name", "edit"),
        "undone_by": ("web", "name", "edit"),
    },
    "structure": {
        "renamed": ("web", "name", "new"), "section_added": ("web", "number", "section"),
        "section_dropped": ("web", "number"), "section_moved": ("web", "number", "to"),
        "use_filled": ("web", "section", "number"), "split_off": ("web", "section", "number", "many", "name"),
    },
    "merging": {
        "merged": ("web", "one", "other"), "paper_of_two": ("web", "one", "other"), "do_agree": ("web", "one", "other"),
        "merged_all": ("web", "acts"), "greatest_lot": ("web", "acts"),
    },
    "shelves": {
        "shelf_web": ("shelf", "word"), "shelf_springs": ("shelf", "word"),
        "shelf_gone_back": ("shelf", "word", "name", "edit"),
    },
    "desk": {"Desk": ("text",), "replayed": ("text", "lines")},
}

DESK = {"web": (), "text": ("name",), "run": ("line",)}

BARRED_NODES = (ast.Global, ast.AsyncFunctionDef, ast.Await, ast.Div, ast.Import)


class Interface(unittest.TestCase):
    def test_names_and_parameters(self):
        for file, names in INTERFACE.items():
            module = importlib.import_module("proseknot." + file)
            for name, parameters in names.items():
                found = getattr(module, name)
                self.assertEqual(found.__module__, "proseknot." + file, name)
                if parameters is not None:
                    self.assertEqual(tuple(inspect.signature(found).parameters), parameters, name)

    def test_methods_and_the_field_of_a_desk(self):
        kind = importlib.import_module("proseknot.desk").Desk
        for name, parameters in DESK.items():
            self.assertEqual(tuple(inspect.signature(kind.__dict__[name]).parameters), ("self",) + parameters, name)
        self.assertIn("lines", vars(kind("")))


class Form(unittest.TestCase):
    def test_the_folder_holds_files_of_the_package_alone(self):
        for path in PACKAGE.iterdir():
            self.assertTrue(path.suffix == ".py" or path.name == "__pycache__", path)

    def test_signs_and_sizes(self):
        for path in PACKAGE.glob("*.py"):
            source = path.read_bytes()
            self.assertTrue(all(byte == 10 or 32 <= byte <= 126 for byte in source), path)
            lines = source.decode("ascii").split("\n")
            self.assertLessEqual(len(lines), 400, path)
            self.assertLessEqual(max(map(len, lines)), 120, path)

    def test_statements(self):
        for path in PACKAGE.glob("*.py"):
            for node in ast.walk(ast.parse(path.read_text())):
                self.assertNotIsInstance(node, BARRED_NODES, path)
                if isinstance(node, ast.FunctionDef):
                    self.assertLessEqual(node.end_lineno - node.lineno + 1, 40, (path, node.name))
                if isinstance(node, ast.ImportFrom):
                    self.assertTrue(node.module.startswith("proseknot."), path)
                if isinstance(node, ast.Constant):
                    self.assertNotIsInstance(node.value, float, path)
                    self.assertNotIn("%", str(node.value), path)


class Examples(unittest.TestCase):
    def test_readme(self):
        failed, tried = doctest.testfile(str(ROOT / "README.md"), module_relative=False)
        self.assertEqual(failed, 0)
        self.assertGreater(tried, 0)
