"""What stands in which file: the package by itself, and the interface under its headings."""

import ast
import unittest
from pathlib import Path

import nearestsays

PACKAGE = Path(nearestsays.__file__).parent

# Of each module in their order: its functions, and its classes with the
# methods and properties that the document lists for them.
INTERFACE = {
    "errors": {},
    "places": {
        "Place": "__init__ read of names text up __add__ head __contains__ __and__ __len__ __bool__ __str__ __repr__ __eq__ is_ahead",
    },
    "tables": {
        "Table": "__init__ plain places __getitem__ __setitem__ put take __contains__ __len__ __call__ told speaker cells update "
                 "__ior__ __or__ copy __eq__ __bool__ editing attempt",
    },
    "least": {"needless": None, "least": None, "parted": None, "alike": None, "closest": None},
    "steps": {"Step": "on __invert__ __eq__ __str__", "Put": "", "Take": "", "Edit": "", "Part": ""},
    "exchange": {
        "Exchange": "__init__ first_copy second_copy __len__ kind above number_of back divide __eq__",
        "unlike": None,
    },
    "plans": {
        "Plan": "__init__ __len__ __str__ head __add__ begins __eq__ back is_whole is_strict is_right table_behind tables left",
    },
}

MODULES = list(INTERFACE)


def parsed(module):
    return ast.parse((PACKAGE / f"{module}.py").read_text(encoding="utf-8"))


def functions(tree):
    return [node for node in ast.walk(tree) if isinstance(node, ast.FunctionDef)]


class Layout(unittest.TestCase):
    def test_the_package_holds_its_modules_alone(self):
        found = sorted(path.name for path in PACKAGE.iterdir() if path.name != "__pycache__")
        self.assertEqual(found, sorted(["__init__.py", *(f"{module}.py" for module in MODULES)]))

    def test_the_interface_stands_in_its_files(self):
        for module, things in INTERFACE.items():
            body = {node.name: node for node in parsed(module).body if hasattr(node, "name")}
            for name, methods in things.items():
                kind = ast.FunctionDef if methods is None else ast.ClassDef
                self.assertIsInstance(body.get(name), kind, f"{module}.{name}")
                held = [node.name for node in body[name].body if isinstance(node, ast.FunctionDef)]
                self.assertEqual([method for method in (methods or "").split() if method not in held], [], name)

    def test_each_module_needs_only_those_ahead_of_it(self):
        for at, module in enumerate(MODULES):
            for node in parsed(module).body:
                self.assertNotIsInstance(node, ast.Import)
                if isinstance(node, ast.ImportFrom):
                    self.assertIn(node.module, [f"nearestsays.{name}" for name in MODULES[:at]])

    def test_sizes(self):
        for module in MODULES:
            lines = (PACKAGE / f"{module}.py").read_text(encoding="ascii").split("\n")
            self.assertLess(len(lines), 400)
            self.assertLessEqual(max(len(line) for line in lines), 120)
            for node in functions(parsed(module)):
                self.assertLessEqual(node.end_lineno - node.lineno, 39, f"{module}.{node.name}")


if __name__ == "__main__":
    unittest.main()
