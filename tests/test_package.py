"""The package: its files, and the interface in the files under which it is listed."""

import importlib
import inspect
import pathlib

from tests.helpers import TallyTest

FOLDER = pathlib.Path(__file__).resolve().parent.parent / "tallyplans"

FUNCTIONS = {
    "counts": {"is_counts": ["thing"], "total": ["counts"], "count_of": ["counts", "name"], "added": ["one", "other"]},
    "orders": {
        "is_order": ["thing"], "arrivals_of": ["order"], "shortened": ["order"], "format_order": ["order"],
        "parse_order": ["text"],
    },
}


class PackageTest(TallyTest):
    def test_folder_holds_python_files_only(self):
        for path in FOLDER.iterdir():
            if path.name != "__pycache__":
                self.assertEqual(path.suffix, ".py")
                text = path.read_text(encoding="utf-8")
                self.assertTrue(set(text) <= {chr(code) for code in range(32, 127)} | {"\n"}, path)
                self.assertLess(len(text.splitlines()), 400)
                self.assertLessEqual(max(len(line) for line in text.splitlines()), 120)

    def test_functions_are_defined_in_their_files(self):
        for file, functions in FUNCTIONS.items():
            module = importlib.import_module("tallyplans." + file)
            for name, parameters in functions.items():
                function = getattr(module, name)
                self.assertEqual(function.__module__, module.__name__)
                self.assertEqual(list(inspect.signature(function).parameters), parameters)
