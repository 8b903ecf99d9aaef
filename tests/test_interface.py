"""The interface: what is defined where; and [1]: nothing from outside is used."""

import ast
import pathlib
import unittest

PACKAGE = pathlib.Path(__file__).resolve().parent.parent / "asklock"

ERRORS = {
    "LockError", "NoTable", "NoHall", "NoAgent", "NoLock", "NoHouse", "NoLetter",
    "Stopped", "Waits", "Holds", "NotHeld", "Up",
}

TABLE_METHODS = {
    "ask": ["agent", "lock"],
    "give": ["agent", "lock"],
    "leave": ["agent"],
    "waits": ["agent"],
    "held": ["agent"],
    "wait_number": ["agent"],
    "holder": ["lock"],
    "queue": ["lock"],
    "hold_number": ["lock"],
    "agents": [],
    "locks": [],
}

HALL_METHODS = {
    "ask": ["agent", "lock"],
    "give": ["agent", "lock"],
    "again": [],
    "carry": ["number"],
    "lose": ["number"],
    "double": ["number"],
    "stop": ["house"],
    "rise": ["house"],
    "road": [],
    "told": [],
    "broken": [],
    "table": [],
}

CLASSES = (
    ("tables.py", "Table", ["agents", "locks"], TABLE_METHODS),
    ("halls.py", "Hall", ["agents", "locks", "houses"], HALL_METHODS),
)

FUNCTIONS = {
    "rings.py": {
        "chain": ["table", "agent"],
        "rings": ["table"],
        "is_ring": ["table", "some"],
        "least": ["table"],
    },
    "books.py": {
        "played": ["agents", "locks", "houses", "book"],
    },
}


def parsed(name):
    return ast.parse((PACKAGE / name).read_text(encoding="utf-8"))


def classes_of(name):
    return {row.name: row for row in parsed(name).body if isinstance(row, ast.ClassDef)}


def parameters_of(method):
    return [parameter.arg for parameter in method.args.args]


class Interface(unittest.TestCase):
    def test_errors_are_defined_in_their_file(self):
        self.assertEqual(set(classes_of("errors.py")), ERRORS)

    def test_classes_define_each_method_themselves(self):
        for file, name, counts, methods in CLASSES:
            body = classes_of(file)[name].body
            defined = {row.name: row for row in body if isinstance(row, ast.FunctionDef)}
            self.assertEqual(parameters_of(defined["__init__"]), ["self", *counts])
            for method, parameters in methods.items():
                with self.subTest(name, method=method):
                    self.assertIn(method, defined)
                    self.assertEqual(parameters_of(defined[method]), ["self", *parameters])

    def test_functions_are_defined_in_their_files(self):
        for file, functions in FUNCTIONS.items():
            body = parsed(file).body
            defined = {row.name: row for row in body if isinstance(row, ast.FunctionDef)}
            for function, parameters in functions.items():
                with self.subTest(file, function=function):
                    self.assertIn(function, defined)
                    self.assertEqual(parameters_of(defined[function]), parameters)


class NothingFromOutside(unittest.TestCase):
    def test_only_the_package_is_imported(self):
        for path in sorted(PACKAGE.glob("*.py")):
            for node in ast.walk(parsed(path.name)):
                with self.subTest(path.name):
                    self.assertNotIsInstance(node, ast.Import)
                    if isinstance(node, ast.ImportFrom):
                        self.assertEqual(node.level, 0)
                        self.assertEqual(node.module.split(".")[0], "asklock")

    def test_no_file_is_opened_and_nothing_is_read_or_printed(self):
        for path in sorted(PACKAGE.glob("*.py")):
            names = {node.id for node in ast.walk(parsed(path.name)) if isinstance(node, ast.Name)}
            with self.subTest(path.name):
                self.assertEqual(names & {"open", "input", "print", "eval", "exec", "__import__"}, set())


if __name__ == "__main__":
    unittest.main()
