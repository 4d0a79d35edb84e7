"""The package keeps to the sizes, characters and imports that its subset of Python allows."""

import ast
import pathlib
import unittest

PACKAGE = pathlib.Path(__file__).resolve().parent.parent / "askedfor"

INTERFACE = {
    "errors": [
        "Refused", "Malformed", "Unknown", "Twice", "Mismatched", "Unhandled", "Unbounded",
    ],
    "tokens": ["tokenize"],
    "reader": ["read"],
    "writer": ["show"],
    "trees": ["parts", "with_parts", "numbered", "free_names", "put_in"],
    "rows": ["Rows"],
    "infer": ["MOST_SIZE", "infer"],
    "judge": ["is_typing"],
    "plain": ["run_plain"],
    "machine": ["run_machine", "run_counted"],
    "answers": ["answers_at_once", "keeps_nothing"],
    "code": ["compile_expression"],
    "runner": ["run_code", "run_kept"],
    "whole": ["outcome", "all_outcomes"],
}
METHODS = {("rows", "Rows"): ["fresh", "contain", "flow", "same", "least"]}

# Words that stand in no file of the package, except in comments and docstrings.
BARRED = (
    "type", "typing", "enum", "Generic", "Protocol", "register", "elements", "open", "input", "law",
    "eval", "exec", "globals", "locals", "vars", "id", "dir", "map", "filter", "super", "chr",
)


class LanguageTest(unittest.TestCase):
    def files(self):
        for path in sorted(PACKAGE.glob("*.py")):
            with self.subTest(path.name):
                yield path, path.read_text(encoding="utf-8")

    def test_only_modules_stand_in_the_package(self):
        names = sorted(path.name for path in PACKAGE.iterdir() if path.name != "__pycache__")
        self.assertEqual([name for name in names if not name.endswith(".py")], [])
        self.assertIn("__init__.py", names)

    def test_sizes_and_characters(self):
        for _, text in self.files():
            lines = text.splitlines()
            self.assertLessEqual(len(lines), 399)
            self.assertLessEqual(max(len(line) for line in lines), 120)
            self.assertEqual([c for c in text if not (" " <= c <= "~" or c == "\n")], [])

    def test_functions_are_short(self):
        for _, text in self.files():
            for node in ast.walk(ast.parse(text)):
                if isinstance(node, ast.FunctionDef):
                    self.assertLessEqual(node.end_lineno - node.lineno + 1, 40, node.name)

    def test_imports_come_from_the_package(self):
        for _, text in self.files():
            for node in ast.walk(ast.parse(text)):
                self.assertNotIsInstance(node, ast.Import)
                if isinstance(node, ast.ImportFrom):
                    self.assertEqual(node.level, 0)
                    self.assertTrue(node.module.startswith("askedfor."), node.module)

    def test_the_interface_is_defined_where_it_is_listed(self):
        for module, names in INTERFACE.items():
            tree = ast.parse((PACKAGE / f"{module}.py").read_text(encoding="utf-8"))
            defined = [
                node.name for node in tree.body if isinstance(node, (ast.FunctionDef, ast.ClassDef))
            ]
            for node in tree.body:
                if isinstance(node, ast.Assign):
                    defined += [target.id for target in node.targets]
            for name in names:
                self.assertIn(name, defined)

    def test_the_methods_are_defined_in_the_class_itself(self):
        for (module, name), methods in METHODS.items():
            tree = ast.parse((PACKAGE / f"{module}.py").read_text(encoding="utf-8"))
            for node in tree.body:
                if isinstance(node, ast.ClassDef) and node.name == name:
                    defined = [each.name for each in node.body if isinstance(each, ast.FunctionDef)]
            for method in methods:
                self.assertIn(method, defined)

    def test_words_that_are_not_used(self):
        for _, text in self.files():
            for node in ast.walk(ast.parse(text)):
                used = [getattr(node, field, None) for field in ("id", "attr", "arg", "name")]
                for word in used:
                    self.assertNotIn(word, BARRED)
                if isinstance(node, ast.Constant):
                    self.assertNotIsInstance(node.value, (float, complex))

    def test_statements_that_are_not_used(self):
        for _, text in self.files():
            for node in ast.walk(ast.parse(text)):
                self.assertNotIsInstance(
                    node, (ast.Global, ast.AsyncFunctionDef, ast.Await, ast.Set, ast.Div)
                )
                if isinstance(node, (ast.FunctionDef, ast.ClassDef)):
                    self.assertEqual(node.decorator_list, [])


if __name__ == "__main__":
    unittest.main()
