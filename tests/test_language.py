"""The rules of the language that can be seen in a file's form."""

import ast
import builtins
import pathlib
import re
import unittest

PACKAGE = pathlib.Path(__file__).resolve().parent.parent / "passmarks"
LIBRARY = {"math": {"gcd", "lcm", "isqrt", "comb", "perm", "factorial"},
           "itertools": {"combinations", "permutations", "product"}}
BUILTINS = set(
    "len range enumerate zip min max sum abs sorted reversed int str bool list tuple dict set isinstance ord repr"
    " any all divmod ValueError KeyError IndexError LookupError ArithmeticError RuntimeError".split())
METHODS = set(
    "append copy count endswith extend find get index insert isdigit items join keys pop remove replace reverse"
    " setdefault split startswith strip update values add".split())
SPECIAL = {"__init__", "__eq__"}
WORDS = re.compile(r"\b(type|typing|enum|Enum|Generic|Protocol|ABC|namedtuple|NamedTuple|TypedDict)\b")
PARTS = (ast.FunctionDef, ast.ClassDef, ast.ImportFrom, ast.Assign, ast.Expr)
BARRED = (ast.Global, ast.AsyncFunctionDef, ast.Import, ast.Div, ast.GeneratorExp, ast.SetComp, ast.Lambda,
          ast.AnnAssign, ast.NamedExpr, ast.Await, ast.TryStar)


def files():
    return sorted(PACKAGE.glob("*.py"))


def trees():
    return [(file, ast.parse(file.read_text())) for file in files()]


def nodes(kind):
    return [(file, node) for file, tree in trees() for node in ast.walk(tree) if isinstance(node, kind)]


def imports():
    """Of each file the files that it imports from."""
    taken = {file.stem: set() for file in files()}
    for file, node in nodes(ast.ImportFrom):
        if node.module not in LIBRARY:
            taken[file.stem].add(node.module.split(".")[1])
    return taken


class Files(unittest.TestCase):
    def test_the_folder_has_files_alone(self):
        there = [path for path in PACKAGE.iterdir() if path.name != "__pycache__"]
        for path in there:
            self.assertRegex(path.name, r"^[a-z0-9_]+\.py$")

    def test_sizes_and_characters(self):
        for file in files():
            text = file.read_text()
            self.assertLessEqual(text.count("\n"), 399, file)
            self.assertTrue(all(" " <= letter <= "~" or letter == "\n" for letter in text), file)
            self.assertLessEqual(max(len(line) for line in text.split("\n")), 120, file)
        for file, node in nodes(ast.FunctionDef):
            self.assertLessEqual(node.end_lineno - node.lineno + 1, 40, (file, node.name))

    def test_imports(self):
        for file, node in nodes(ast.ImportFrom):
            self.assertTrue(all(name.asname is None for name in node.names), file)
            if node.module in LIBRARY:
                self.assertLessEqual({name.name for name in node.names}, LIBRARY[node.module], file)
                continue
            self.assertRegex(node.module, r"^passmarks\.[a-z]+$")
            body = ast.parse((PACKAGE / (node.module.split(".")[1] + ".py")).read_text()).body
            there = {part.name for part in body if isinstance(part, (ast.FunctionDef, ast.ClassDef))}
            there |= {part.targets[0].id for part in body if isinstance(part, ast.Assign)}
            for name in node.names:
                self.assertIn(name.name, there, file)

    def test_what_is_imported_has_no_other_meaning(self):
        for file, tree in trees():
            taken = {name.name for node in ast.walk(tree) if isinstance(node, ast.ImportFrom) for name in node.names}
            bound = [node.arg for node in ast.walk(tree) if isinstance(node, ast.arg)]
            bound += [node.id for node in ast.walk(tree) if isinstance(node, ast.Name) and
                      isinstance(node.ctx, ast.Store)]
            self.assertEqual(taken & set(bound), set(), file)

    def test_no_two_files_import_one_another(self):
        left = imports()
        while left:
            free = [name for name in left if not left[name]]
            self.assertTrue(free, left)
            left = {name: taken - set(free) for name, taken in left.items() if name not in free}


class Forms(unittest.TestCase):
    def test_module_level(self):
        for file, tree in trees():
            for part in tree.body:
                self.assertIsInstance(part, PARTS, file)

    def test_what_is_barred(self):
        self.assertEqual(nodes(BARRED), [])
        for file, node in nodes((ast.FunctionDef, ast.ClassDef)):
            self.assertEqual(node.decorator_list, [], file)

    def test_builtins(self):
        for file, node in nodes(ast.Name):
            if hasattr(builtins, node.id):
                self.assertIn(node.id, BUILTINS, file)
                self.assertIsInstance(node.ctx, ast.Load, file)

    def test_methods(self):
        own = {node.name for _, node in nodes(ast.FunctionDef)}
        for file, node in nodes(ast.Call):
            if isinstance(node.func, ast.Attribute):
                self.assertIn(node.func.attr, METHODS | own | SPECIAL, file)

    def test_special_names(self):
        for file, node in nodes(ast.FunctionDef):
            if node.name.startswith("__"):
                self.assertIn(node.name, SPECIAL, file)

    def test_literals(self):
        for file, node in nodes(ast.Constant):
            self.assertNotIsInstance(node.value, (float, complex), file)
            if isinstance(node.value, str):
                self.assertNotIn("%", node.value, file)
                self.assertIsNone(WORDS.search(node.value), file)

    def test_annotations(self):
        for file, node in nodes(ast.FunctionDef):
            self.assertIsNone(node.returns, file)
            self.assertEqual([part.arg for part in node.args.args if part.annotation], [], file)


if __name__ == "__main__":
    unittest.main()
