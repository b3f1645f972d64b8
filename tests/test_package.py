"""The package: its files, and the interface in the files under which it is listed."""

import ast
import importlib
import inspect
import pathlib

from tests.helpers import TallyTest

FOLDER = pathlib.Path(__file__).resolve().parent.parent / "tallyplans"

FUNCTIONS = {
    "counts": {"is_counts": ["thing"], "total": ["counts"], "count_of": ["counts", "name"], "added": ["one", "other"]},
    "orders": {
        "is_order": ["thing"], "arrivals_of": ["order"], "shortened": ["order"], "format_order": ["order"],
        "parse_order": ["text"],
    },
    "summaries": {"is_summary": ["thing"]},
    "summarytexts": {
        "parse_summary": ["capacity", "text"], "format_counts": ["counts"], "parse_counts": ["text"],
        "pack_summary": ["summary"], "unpack_summary": ["data"],
    },
    "outcomes": {name: ["start", "arrivals", "end"] for name in ("losses", "obstacle", "possible", "find_order")},
    "ranges": {
        "reduction_range": ["capacity", "arrivals"], "order_with": ["capacity", "arrivals", "reductions"],
        "can_end": ["capacity", "arrivals", "name", "count"], "order_for": ["capacity", "arrivals", "name", "count"],
        "count_range": ["capacity", "arrivals", "name"],
    },
}

METHODS = {
    ("summaries", "Summary"): {
        "__init__": ["self", "capacity", "counts"], "tally": ["self", "name"], "kept": ["self"], "is_full": ["self"],
        "arrive": ["self", "name", "times"], "play": ["self", "order"], "reductions": ["self", "order"],
        "merged": ["self", "other"], "__eq__": ["self", "other"], "__len__": ["self"], "__str__": ["self"],
        "__repr__": ["self"],
    },
}

# Names that stand nowhere in the package, whatever they name.
BARRED = {
    "register", "mro", "elements", "open", "input", "law", "version_info", "with_traceback", "add_note", "type",
    "typing", "enum", "dir", "eval", "exec", "exit", "help", "id", "vars", "globals", "locals", "compile", "copyright",
    "credits", "license", "quit", "os", "gc",
}


def names_in(tree):
    """Return all names of a file: of variables, functions, classes, imports, parameters, keywords and attributes."""
    found = set()
    for node in ast.walk(tree):
        for field in ("id", "name", "arg", "attr", "asname", "module"):
            value = getattr(node, field, None)
            if isinstance(value, str):
                found |= set(value.split("."))
    return found


class PackageTest(TallyTest):
    def test_folder_holds_python_files_only(self):
        for path in FOLDER.iterdir():
            if path.name != "__pycache__":
                self.assertEqual(path.suffix, ".py")
                text = path.read_text(encoding="utf-8")
                self.assertTrue(set(text) <= {chr(code) for code in range(32, 127)} | {"\n"}, path)
                self.assertLess(len(text.splitlines()), 400)
                self.assertLessEqual(max(len(line) for line in text.splitlines()), 120)

    def test_functions_are_defined_in_their_files(self):
        for file, functions in FUNCTIONS.items():
            module = importlib.import_module("tallyplans." + file)
            for name, parameters in functions.items():
                function = getattr(module, name)
                self.assertEqual(function.__module__, module.__name__)
                self.assertEqual(list(inspect.signature(function).parameters), parameters)

    def test_methods_are_defined_in_their_classes(self):
        for (file, name), methods in METHODS.items():
            found = getattr(importlib.import_module("tallyplans." + file), name)
            self.assertEqual(found.__module__, "tallyplans." + file)
            for method, parameters in methods.items():
                self.assertIn(method, vars(found))
                self.assertEqual(list(inspect.signature(vars(found)[method]).parameters), parameters)

    def test_no_barred_name(self):
        for path in FOLDER.glob("*.py"):
            found = names_in(ast.parse(path.read_text(encoding="utf-8")))
            self.assertEqual(found & BARRED, set(), path)

    def test_small_functions(self):
        for path in FOLDER.glob("*.py"):
            for node in ast.walk(ast.parse(path.read_text(encoding="utf-8"))):
                if isinstance(node, ast.FunctionDef):
                    self.assertLessEqual(node.end_lineno - node.lineno, 39, node.name)
