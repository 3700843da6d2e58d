"""The names of the interface, and what can be seen of the rules for the package's files."""

import ast
import importlib
import inspect
import unittest
from pathlib import Path

PACKAGE = Path(__file__).resolve().parent.parent / "spreadrow"

INTERFACE = {
    "errors": {"HeapError": None, "BadHeaps": None, "BadPlace": None, "BadText": None},
    "answers": {"Spread": ["stretches"]},
    "spreading": {"spread": ["heaps"], "left": ["heaps", "place"]},
    "giving": {"gave": ["heaps", "place"], "all_gave": ["heaps"]},
    "texts": {"written": ["heaps"], "read": ["text"]},
}

IMPORTABLE = {"heapq", "math", "itertools", "collections"}

UNUSED_NODES = (
    ast.Global, ast.AsyncFunctionDef, ast.AsyncFor, ast.AsyncWith, ast.Await, ast.Import, ast.Div,
)


def sources():
    return sorted(path for path in PACKAGE.rglob("*") if path.is_file() and "__pycache__" not in path.parts)


class Interface(unittest.TestCase):
    def test_names_are_defined_in_their_files(self):
        for file, names in INTERFACE.items():
            module = importlib.import_module("spreadrow." + file)
            tree = ast.parse((PACKAGE / (file + ".py")).read_text())
            defined = {node.name for node in tree.body if isinstance(node, (ast.FunctionDef, ast.ClassDef))}
            for name, arguments in names.items():
                self.assertIn(name, defined)
                if arguments is not None:
                    self.assertEqual(list(inspect.signature(getattr(module, name)).parameters), arguments)

    def test_shows_is_defined_in_its_class(self):
        answers = importlib.import_module("spreadrow.answers")
        self.assertIn("shows", vars(answers.Spread))
        self.assertEqual(list(inspect.signature(answers.Spread.shows).parameters), ["self", "heaps"])


class Files(unittest.TestCase):
    def test_only_python_files(self):
        self.assertIn(PACKAGE / "__init__.py", sources())
        for path in sources():
            self.assertRegex(path.name, r"\A[a-z_][a-z0-9_]*\.py\Z")

    def test_signs_and_sizes(self):
        for path in sources():
            text = path.read_bytes().decode("ascii")
            self.assertTrue(all(sign == "\n" or " " <= sign <= "~" for sign in text), path)
            rows = text.splitlines()
            self.assertLessEqual(len(rows), 399)
            self.assertLessEqual(max(map(len, rows), default=0), 120)

    def test_nodes(self):
        for path in sources():
            for node in ast.walk(ast.parse(path.read_text())):
                self.assertNotIsInstance(node, UNUSED_NODES)
                if isinstance(node, ast.FunctionDef):
                    self.assertLessEqual(node.end_lineno - node.lineno + 1, 40)
                if isinstance(node, ast.ImportFrom):
                    self.assertEqual(node.level, 0)
                    top = node.module.split(".")[0]
                    self.assertTrue(top == "spreadrow" or node.module in IMPORTABLE, node.module)
                if isinstance(node, ast.Constant):
                    self.assertNotIsInstance(node.value, (float, complex))


if __name__ == "__main__":
    unittest.main()
