"""What stands in which file: the package by itself, and the interface under its headings."""

import ast
import unittest
from pathlib import Path

import nearestsays

PACKAGE = Path(nearestsays.__file__).parent

# Of each module in their order: its functions, and its classes with the
# methods and properties that the document lists for them.
INTERFACE = {
    "errors": {},
    "places": {
        "Place": "__init__ read of names text up __add__ head __contains__ __and__ __len__ __bool__ __str__ __repr__ __eq__ is_ahead",
    },
    "tables": {
        "Table": "__init__ plain places __getitem__ __setitem__ put take __contains__ __len__ __call__ told speaker cells update "
                 "__ior__ __or__ copy __eq__ __bool__ editing attempt",
    },
    "least": {"needless": None, "least": None, "parted": None, "alike": None, "closest": None},
    "steps": {"Step": "on __invert__ __eq__ __str__", "Put": "", "Take": "", "Edit": "", "Part": ""},
    "exchange": {
        "Exchange": "__init__ first_copy second_copy __len__ kind above number_of back divide __eq__ places",
        "unlike": None,
    },
    "plans": {
        "Plan": "__init__ __len__ __str__ head __add__ begins __eq__ back is_whole is_strict is_right table_behind tables left exchange",
    },
    "judge": {
        "broken": None, "third": None, "judge": None, "shows": None,
        "Verdict": "__init__ __eq__ paper", "Strict": "__init__ __bool__ __eq__ paper", "Broken": "__init__ __bool__ __eq__ paper",
    },
    "rings": {"ring": None, "is_ring": None},
    "orders": {"ready": None, "orders": None, "least_order": None},
    "counting": {"count": None, "nth": None, "rank": None},
    "rounds": {"rounds": None, "chain": None, "shows_rounds": None},
    "dividing": {"candidates": None, "fewest_divided": None, "shows_divided": None},
    "standings": {
        "table_at": None, "third_at": None, "is_right": None, "is_strict": None, "may_come": None,
        "right_standings": None, "strict_standings": None,
    },
    "book": {"Book": "__init__ exchange rows total __len__ __contains__ is_stuck walks __eq__", "is_book": None},
    "room": {"room": None, "least_room": None, "within": None, "barred": None, "shows_barred": None},
    "hands": {"together": None, "joining": None, "are_apart": None, "mixed": None},
    "heard": {"Hearings": "__init__ hear rows __len__ surely_done surely_left", "contradiction": None, "shows_contradiction": None},
    "live": {
        "Live": "__init__ __call__ told table_copy rule set_rule exchange done begin step back finish turn_to exchanged trial tried log",
    },
    "texts": {"show_table": None, "show_plan": None, "read_table": None, "read_plan": None},
    "desk": {"Desk": "__init__ say run table_copy"},
}

MODULES = list(INTERFACE)

# The properties of the document that have no setter, those of later modules
# too: no attribute may have one of these names.
UNSET = "places is_whole is_strict is_right total rows exchange done log names text up".split()

# What is imported from outside of the package.
LIBRARY = [("math", ["comb"]), ("heapq", ["heappop", "heappush"])]

# What may change its own object though it is an operator.
CHANGING = ("__setitem__", "__ior__", "__init__", "__enter__", "__exit__", "__call__")


def parsed(module):
    return ast.parse((PACKAGE / f"{module}.py").read_text(encoding="utf-8"))


def functions(tree):
    return [node for node in ast.walk(tree) if isinstance(node, ast.FunctionDef)]


def classes():
    return [node for module in MODULES for node in parsed(module).body if isinstance(node, ast.ClassDef)]


def decorated(function, word):
    """Whether a decorator of the function is this word, or ends in it behind a dot."""
    return any(getattr(sign, "id", getattr(sign, "attr", None)) == word for sign in function.decorator_list)


def assigned(tree):
    """The attributes that are assigned in a tree, as nodes."""
    return [node for node in ast.walk(tree) if isinstance(node, ast.Attribute) and not isinstance(node.ctx, ast.Load)]


def package_functions():
    """All functions and methods of the package by their names; a class by its own, too, for its `__init__`."""
    found = {}
    for module in MODULES:
        for function in functions(parsed(module)):
            found.setdefault(function.name, []).append(function)
    for node in classes():
        for function in functions(node):
            if function.name == "__init__":
                found.setdefault(node.name, []).append(function)
    return found


def names_run(function):
    """The names of what a function may run: what it calls, and the attributes that it reads."""
    found = [node.attr for node in ast.walk(function) if isinstance(node, ast.Attribute)]
    return found + [node.func.id for node in ast.walk(function) if isinstance(node, ast.Call) and isinstance(node.func, ast.Name)]


def quiet_functions():
    """The properties, the operators that change nothing, and all that these may run."""
    known = package_functions()
    found = [
        function
        for node in classes()
        for function in functions(node)
        if decorated(function, "property") or (function.name.startswith("__") and function.name not in CHANGING)
    ]
    for function in found:
        for name in names_run(function):
            found.extend(other for other in known.get(name, []) if other not in found)
    return found


class Layout(unittest.TestCase):
    def test_the_package_holds_its_modules_alone(self):
        found = sorted(path.name for path in PACKAGE.iterdir() if path.name != "__pycache__")
        self.assertEqual(found, sorted(["__init__.py", *(f"{module}.py" for module in MODULES)]))

    def test_the_interface_stands_in_its_files(self):
        for module, things in INTERFACE.items():
            body = {node.name: node for node in parsed(module).body if hasattr(node, "name")}
            for name, methods in things.items():
                kind = ast.FunctionDef if methods is None else ast.ClassDef
                self.assertIsInstance(body.get(name), kind, f"{module}.{name}")
                held = [node.name for node in body[name].body if isinstance(node, ast.FunctionDef)]
                self.assertEqual([method for method in (methods or "").split() if method not in held], [], name)

    def test_each_module_needs_only_those_ahead_of_it(self):
        for at, module in enumerate(MODULES):
            for node in parsed(module).body:
                self.assertNotIsInstance(node, ast.Import)
                if isinstance(node, ast.ImportFrom) and (node.module, [name.name for name in node.names]) not in LIBRARY:
                    self.assertIn(node.module, [f"nearestsays.{name}" for name in MODULES[:at]])

    def test_sizes(self):
        for module in MODULES:
            lines = (PACKAGE / f"{module}.py").read_text(encoding="ascii").split("\n")
            self.assertLess(len(lines), 400)
            self.assertLessEqual(max(len(line) for line in lines), 120)
            for node in functions(parsed(module)):
                self.assertLessEqual(node.end_lineno - node.lineno, 39, f"{module}.{node.name}")

    def test_no_property_without_a_setter_is_assigned(self):
        held, set_ = {}, {}
        for node in classes():
            for function in functions(node):
                if decorated(function, "property"):
                    held.setdefault(function.name, []).append(node.name)
                if decorated(function, "setter"):
                    set_.setdefault(function.name, []).append(node.name)
        self.assertIn("places", held)
        unset = [*UNSET, *(name for name in held if held[name] != set_.get(name))]
        for module in MODULES:
            for node in assigned(parsed(module)):
                self.assertNotIn(node.attr, unset, f"{module}, line {node.lineno}")

    def test_properties_and_operators_change_nothing_and_run_no_generator(self):
        found = quiet_functions()
        self.assertIn("third_told", [function.name for function in found])
        for function in found:
            for node in ast.walk(function):
                self.assertNotIsInstance(node, (ast.Yield, ast.YieldFrom, ast.With, ast.Global), function.name)
            if function.name == "__init__":
                continue
            made = [
                node.targets[0].id
                for node in ast.walk(function)
                if isinstance(node, ast.Assign) and isinstance(node.value, ast.Call)
                and isinstance(node.targets[0], ast.Name) and getattr(node.value.func, "id", "")[:1].isupper()
            ]
            for node in assigned(function):
                self.assertIn(getattr(node.value, "id", None), made, f"{function.name}, line {node.lineno}")


if __name__ == "__main__":
    unittest.main()
