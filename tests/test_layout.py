"""The files of the package: what is in them, where, and of what size."""

import ast
import importlib
import pathlib
import unittest

PACKAGE = pathlib.Path(__file__).resolve().parent.parent / "countermarch"
LIBRARY = ("heapq", "math", "itertools", "collections")

# What the interface lists for each file.
INTERFACE = {
    "errors": (
        "CountermarchError FieldError TextError TreeError ArgumentError CodeError"
        " ScheduleError PaperError CommandError"
    ),
    "field": "reduce_number inverse combine combine_duals shares dot basis",
    "words": "read_program write_program split_words",
    "checking": "check cells layout variables_at",
    "plain": "run_beat run dual_run",
    "simple": "is_simple simplify count_operations",
    "adjoint": "transform make_adjoint contributions",
    "sweeps": "forward reverse",
    "code": "translate check_code run_forward run_reverse",
    "schedules": "judge least plan make_table accept_table",
    "marches": "march by_directions",
    "system": "build slope agrees refute Session",
}


def package_files():
    return sorted(path for path in PACKAGE.rglob("*") if "__pycache__" not in path.parts)


def parsed_files():
    return [(path, ast.parse(path.read_text("utf-8"))) for path in package_files()]


class TestLayout(unittest.TestCase):
    def test_interface_is_defined_where_it_is_listed(self):
        for name, words in INTERFACE.items():
            module = importlib.import_module(f"countermarch.{name}")
            for word in words.split():
                with self.subTest(module=name, word=word):
                    self.assertEqual(getattr(module, word).__module__, module.__name__)

    def test_no_two_files_import_from_each_other(self):
        imports = {}
        for path, tree in parsed_files():
            modules = [node.module for node in ast.walk(tree) if isinstance(node, ast.ImportFrom)]
            imports[f"countermarch.{path.stem}"] = [module for module in modules if module.startswith("countermarch")]
        while imports:
            free = [name for name, modules in imports.items() if not any(module in imports for module in modules)]
            self.assertTrue(free, imports)
            for name in free:
                del imports[name]

    def test_only_python_files(self):
        self.assertTrue((PACKAGE / "__init__.py").is_file())
        for path in package_files():
            self.assertRegex(path.name, r"^[a-z0-9_]+\.py$")

    def test_lines_and_characters(self):
        for path in package_files():
            lines = path.read_text("utf-8").removesuffix("\n").split("\n")
            self.assertLessEqual(len(lines), 399, path)
            for line in lines:
                self.assertLessEqual(len(line), 120, path)
                self.assertRegex(line, r"^[ -~]*$", path)

    def test_functions_are_short(self):
        for path, tree in parsed_files():
            for node in ast.walk(tree):
                if isinstance(node, ast.FunctionDef):
                    length = node.end_lineno - node.lineno + 1
                    self.assertLessEqual(length, 40, f"{path}: {node.name}")

    def test_imports_stay_in_the_package(self):
        for path, tree in parsed_files():
            for node in ast.walk(tree):
                self.assertNotIsInstance(node, ast.Import, path)
                if isinstance(node, ast.ImportFrom):
                    top = node.module.split(".")[0]
                    self.assertIn(top, ("countermarch", "__future__") + LIBRARY, path)


if __name__ == "__main__":
    unittest.main()
