"""The package: its files, and the interface in the files under which it is listed."""

import ast
import importlib
import inspect
import pathlib

from tests.helpers import TallyTest

FOLDER = pathlib.Path(__file__).resolve().parent.parent / "tallyplans"

FUNCTIONS = {
    "counts": {"is_counts": ["thing"], "total": ["counts"], "count_of": ["counts", "name"], "added": ["one", "other"]},
    "orders": {
        "is_order": ["thing"], "arrivals_of": ["order"], "shortened": ["order"], "format_order": ["order"],
        "parse_order": ["text"],
    },
    "summaries": {"is_summary": ["thing"]},
    "summarytexts": {
        "parse_summary": ["capacity", "text"], "format_counts": ["counts"], "parse_counts": ["text"],
        "pack_summary": ["summary"], "unpack_summary": ["data"],
    },
    "outcomes": {name: ["start", "arrivals", "end"] for name in ("losses", "obstacle", "possible", "find_order")},
    "ranges": {
        "reduction_range": ["capacity", "arrivals"], "order_with": ["capacity", "arrivals", "reductions"],
        "can_end": ["capacity", "arrivals", "name", "count"], "order_for": ["capacity", "arrivals", "name", "count"],
        "count_range": ["capacity", "arrivals", "name"],
    },
    "truth": {
        "reduction_count": ["summary", "size"], "fits": ["summary", "size", "counts"],
        "true_range": ["summary", "size", "name"], "surely_more": ["summary", "size", "one", "other"],
        "most_ahead": ["summary", "size", "name"], "surely_among": ["summary", "size", "name", "number"],
    },
    "merging": {
        "is_plan": ["thing"], "plan_result": ["capacity", "plan"], "plan_arrivals": ["plan"],
        "merge_obstacle": ["capacity", "arrivals", "end"], "mergeable": ["capacity", "arrivals", "end"],
        "find_plan": ["capacity", "arrivals", "end"],
    },
    "late": {"late_change": ["start", "order", "index", "name"]},
    "checker": {"accepts": ["claim", "certificate"]},
    "certificates": {
        "certify_end": ["start", "arrivals", "end"], "certify_reductions": ["capacity", "arrivals"],
        "certify_count": ["capacity", "arrivals", "name", "count"], "certify_truth": ["summary", "size", "counts"],
        "certify_merge": ["capacity", "arrivals", "end"], "certify_late": ["start", "order", "index", "name"],
    },
}

METHODS = {
    ("summaries", "Summary"): {
        "__init__": ["self", "capacity", "counts"], "tally": ["self", "name"], "kept": ["self"], "is_full": ["self"],
        "arrive": ["self", "name", "times"], "play": ["self", "order"], "reductions": ["self", "order"],
        "merged": ["self", "other"], "__eq__": ["self", "other"], "__len__": ["self"], "__str__": ["self"],
        "__repr__": ["self"],
    },
    ("replacing", "Replacing"): {
        "__init__": ["self", "slots", "counts"], "arrive": ["self", "name", "times"], "play": ["self", "order"],
        "least": ["self"], "above_least": ["self"], "__eq__": ["self", "other"], "__len__": ["self"],
        "__str__": ["self"], "__repr__": ["self"],
    },
    ("collecting", "Collector"): {
        "__init__": ["self", "capacity"], "start": ["self"], "entries": ["self"], "current": ["self"],
        "history": ["self"], "arrived": ["self"], "do": ["self", "action"], "arrive": ["self", "name", "times"],
        "merge": ["self", "summary"], "insert_at": ["self", "index", "name", "times"], "remove_at": ["self", "index"],
        "restart": ["self", "summary"], "do_all": ["self", "actions", "observer"], "preview": ["self", "actions"],
        "undo": ["self"], "__eq__": ["self", "other"], "__len__": ["self"], "__str__": ["self"], "__repr__": ["self"],
    },
    ("console", "Console"): {"__init__": ["self", "capacity"], "run": ["self", "line"]},
}

# Names that stand nowhere in the package, whatever they name.
BARRED = {
    "register", "mro", "elements", "open", "input", "law", "version_info", "with_traceback", "add_note", "type",
    "typing", "enum", "dir", "eval", "exec", "exit", "help", "id", "vars", "globals", "locals", "compile", "copyright",
    "credits", "license", "quit", "os", "gc",
}


def names_in(tree):
    """Return all names of a file: of variables, functions, classes, imports, parameters, keywords and attributes."""
    found = set()
    for node in ast.walk(tree):
        for field in ("id", "name", "arg", "attr", "asname", "module"):
            value = getattr(node, field, None)
            if isinstance(value, str):
                found |= set(value.split("."))
    return found


def imported_files(file):
    """Return the set of the modules of the package that a file of it imports."""
    tree = ast.parse((FOLDER / (file + ".py")).read_text(encoding="utf-8"))
    found = [node.module.split(".", 1)[1] for node in ast.walk(tree) if isinstance(node, ast.ImportFrom)]
    return set(found)


class PackageTest(TallyTest):
    def test_folder_holds_python_files_only(self):
        for path in FOLDER.iterdir():
            if path.name != "__pycache__":
                self.assertEqual(path.suffix, ".py")
                text = path.read_text(encoding="utf-8")
                self.assertTrue(set(text) <= {chr(code) for code in range(32, 127)} | {"\n"}, path)
                self.assertLess(len(text.splitlines()), 400)
                self.assertLessEqual(max(len(line) for line in text.splitlines()), 120)

    def test_functions_are_defined_in_their_files(self):
        for file, functions in FUNCTIONS.items():
            module = importlib.import_module("tallyplans." + file)
            for name, parameters in functions.items():
                function = getattr(module, name)
                self.assertEqual(function.__module__, module.__name__)
                self.assertEqual(list(inspect.signature(function).parameters), parameters)

    def test_methods_are_defined_in_their_classes(self):
        for (file, name), methods in METHODS.items():
            found = getattr(importlib.import_module("tallyplans." + file), name)
            self.assertEqual(found.__module__, "tallyplans." + file)
            for method, parameters in methods.items():
                self.assertIn(method, vars(found))
                self.assertEqual(list(inspect.signature(vars(found)[method]).parameters), parameters)

    def test_checker_stands_on_its_own(self):
        own = {"checker", "claimvalues", "claimplays"}
        for path in FOLDER.glob("*.py"):
            if path.stem in own:
                self.assertTrue(imported_files(path.stem) <= own | {"limits"})
            else:
                self.assertEqual(imported_files(path.stem) & own - {"checker"}, set())

    def test_no_barred_name(self):
        for path in FOLDER.glob("*.py"):
            found = names_in(ast.parse(path.read_text(encoding="utf-8")))
            self.assertEqual(found & BARRED, set(), path)

    def test_small_functions(self):
        for path in FOLDER.glob("*.py"):
            for node in ast.walk(ast.parse(path.read_text(encoding="utf-8"))):
                if isinstance(node, ast.FunctionDef):
                    self.assertLessEqual(node.end_lineno - node.lineno, 39, node.name)
