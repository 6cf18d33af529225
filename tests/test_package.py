"""The package folder, its interface, and the rules of the language that a short test can see."""

import ast
import builtins
import doctest
import pathlib
import unittest

ROOT = pathlib.Path(__file__).resolve().parent.parent
FOLDER = ROOT / "heldapart"

# What the interface lists, file by file.
INTERFACE = {
    "errors.py": (
        "HeldError", "BadText", "Unfit", "BadProgram", "NoFunction", "Untold", "Open", "TooMany", "TooManyEdits",
        "NothingToUndo", "NothingToRedo", "NoVersion", "BadLog",
    ),
    "sayings.py": ("saying_error", "names_in"),
    "sayingtexts.py": ("saying_text", "read_saying"),
    "stores.py": ("store_error", "heap_error", "holds", "part_of", "lost"),
    "cases.py": ("cases_of", "case_tells", "laid_out"),
    "laying.py": ("is_laid", "follows", "parting"),
    "programs.py": ("program_error", "names_of", "ways_of", "statement_at"),
    "programtexts.py": ("function_text", "read_function", "program_text", "read_program"),
    "running.py": ("run",),
    "code.py": ("code_of", "row_ways", "run_code"),
    "steps.py": ("opened", "looked", "step"),
    "calls.py": ("rest_of", "called"),
    "checking.py": ("cuts", "stretch_ends", "check", "let_by"),
    "judging.py": ("goes_wrong", "replay"),
    "finding.py": ("folded", "clause_of", "found"),
    "desks.py": ("Desk", "desk_behind"),
    "shells.py": ("Shell",),
}
METHODS = {
    "Desk": ("program", "version", "log", "put", "drop", "keep", "find", "undo", "redo", "at", "text", "check", "run"),
    "Shell": ("say",),
}
# Names that no attribute has, and words that stand nowhere.
NO_ATTRIBUTES = (
    "items", "keys", "values", "pop", "update", "append", "clear", "extend", "insert", "remove", "reverse", "setdefault",
    "sort", "args", "encode", "decode", "hex", "fromhex", "format",
)
NO_WORDS = ("typing", "enum", "open", "input", "register", "mro", "elements", "law", "eval", "exec", "print")
ALLOWED_METHODS = (
    "__init__", "__eq__", "__repr__", "__str__", "__len__", "__enter__", "__exit__", "__call__", "__iter__",
)


def files():
    return sorted(path for path in FOLDER.iterdir() if path.suffix == ".py")


class Package(unittest.TestCase):
    def test_folder_holds_py_files_and_nothing_else(self):
        # Python itself may have put its cache there; .gitignore keeps it out of commits.
        listed = sorted(path.name for path in FOLDER.iterdir() if path.name != "__pycache__")
        self.assertIn("__init__.py", listed)
        for name in listed:
            self.assertRegex(name, r"\A[a-z0-9_]+\.py\Z")
        self.assertIn("__pycache__/", (ROOT / ".gitignore").read_text().split())

    def test_interface_is_defined_in_its_files(self):
        for file, names in INTERFACE.items():
            tree = ast.parse((FOLDER / file).read_text())
            defined = [row.name for row in tree.body if isinstance(row, (ast.FunctionDef, ast.ClassDef))]
            for name in names:
                self.assertEqual(defined.count(name), 1, (file, name))

    def test_methods_are_defined_in_the_classes_themselves(self):
        for file in INTERFACE:
            for row in ast.parse((FOLDER / file).read_text()).body:
                if isinstance(row, ast.ClassDef) and row.name in METHODS:
                    defined = [inner.name for inner in row.body if isinstance(inner, ast.FunctionDef)]
                    for name in METHODS[row.name]:
                        self.assertEqual(defined.count(name), 1, (row.name, name))


class Readme(unittest.TestCase):
    def test_examples(self):
        results = doctest.testfile(str(ROOT / "README.md"), module_relative=False)
        self.assertGreater(results.attempted, 0)
        self.assertEqual(results.failed, 0)


class Language(unittest.TestCase):
    def test_signs_and_lengths(self):
        for path in files():
            lines = path.read_text(encoding="utf-8").split("\n")
            self.assertLessEqual(len(lines) - 1, 399, path.name)
            for at, line in enumerate(lines, 1):
                self.assertLessEqual(len(line), 120, (path.name, at))
                self.assertTrue(all(" " <= sign <= "~" for sign in line), (path.name, at))

    def test_functions_have_at_most_forty_lines(self):
        for path in files():
            for row in ast.walk(ast.parse(path.read_text())):
                if isinstance(row, ast.FunctionDef):
                    self.assertLessEqual(row.end_lineno - row.lineno + 1, 40, (path.name, row.name))
                    if row.name.startswith("__"):
                        self.assertIn(row.name, ALLOWED_METHODS, path.name)

    def test_imports_are_from_files_of_the_package_by_full_names(self):
        for path in files():
            tree = ast.parse(path.read_text())
            for row in ast.walk(tree):
                self.assertNotIsInstance(row, ast.Import, path.name)
                if isinstance(row, ast.ImportFrom):
                    self.assertIn(row, tree.body)
                    self.assertEqual(row.level, 0)
                    self.assertTrue(row.module.startswith("heldapart."), (path.name, row.module))
                    self.assertNotIn("*", [name.name for name in row.names])

    def test_no_two_files_import_from_each_other(self):
        asked = {}
        for path in files():
            rows = [row for row in ast.parse(path.read_text()).body if isinstance(row, ast.ImportFrom)]
            asked[path.stem] = {row.module.split(".")[1] for row in rows}
        while asked:
            free = [name for name, others in asked.items() if not others & set(asked)]
            self.assertTrue(free, asked)
            asked = {name: others for name, others in asked.items() if name not in free}

    def test_imports_come_from_the_file_that_defines_the_name(self):
        for path in files():
            for row in ast.parse(path.read_text()).body:
                if isinstance(row, ast.ImportFrom):
                    other = ast.parse((FOLDER / (row.module.split(".")[1] + ".py")).read_text())
                    defined = [one.name for one in other.body if isinstance(one, (ast.FunctionDef, ast.ClassDef))]
                    defined += [one.targets[0].id for one in other.body if isinstance(one, ast.Assign)]
                    for name in row.names:
                        self.assertIn(name.name, defined, path.name)
                        self.assertIsNone(name.asname)

    def test_no_name_has_two_meanings(self):
        for path in files():
            tree = ast.parse(path.read_text())
            taken = set(dir(builtins)) | {row.name for row in tree.body if isinstance(row, ast.ClassDef)}
            for row in tree.body:
                if isinstance(row, ast.ImportFrom):
                    taken |= {name.name for name in row.names}
            bound = {row.arg for row in ast.walk(tree) if isinstance(row, ast.arg)}
            bound |= {row.id for row in ast.walk(tree) if isinstance(row, ast.Name) and isinstance(row.ctx, ast.Store)}
            self.assertEqual(bound & taken, set(), path.name)

    def test_attributes_and_methods(self):
        for path in files():
            for row in ast.parse(path.read_text()).body:
                if isinstance(row, ast.ClassDef):
                    methods = {inner.name for inner in row.body if isinstance(inner, ast.FunctionDef)}
                    attributes = {inner.attr for inner in ast.walk(row)
                                  if isinstance(inner, ast.Attribute) and isinstance(inner.ctx, ast.Store)}
                    self.assertEqual(methods & attributes, set(), row.name)
                    self.assertEqual(attributes & set(NO_ATTRIBUTES), set(), row.name)

    def test_words_and_statements_that_stand_nowhere(self):
        barred = (ast.Lambda, ast.GeneratorExp, ast.Yield, ast.Global, ast.Nonlocal, ast.With, ast.AsyncFunctionDef)
        for path in files():
            for row in ast.walk(ast.parse(path.read_text())):
                self.assertNotIsInstance(row, barred, path.name)
                for field in ("id", "attr", "name", "arg"):
                    self.assertNotIn(getattr(row, field, None), NO_WORDS, path.name)


if __name__ == "__main__":
    unittest.main()
