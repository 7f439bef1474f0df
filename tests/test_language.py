"""The rules for the files of the package that can be told from their text."""

import ast
import builtins
import pathlib
import re
import unittest

PACKAGE = pathlib.Path(__file__).resolve().parent.parent / "hushedpages"
BUILTINS = """len range enumerate zip min max sum abs sorted reversed int str bool bytes list tuple dict set frozenset
    isinstance ord repr any all divmod pow getattr hasattr setattr iter next map super property staticmethod classmethod
    Exception ValueError TypeError KeyError IndexError LookupError ZeroDivisionError ArithmeticError OverflowError
    RuntimeError NotImplementedError AttributeError StopIteration NotImplemented""".split()
METHODS = """append clear copy count endswith extend find get index insert isalnum isalpha isdigit islower isspace
    isupper items join keys ljust lower lstrip partition pop remove replace reverse rfind rjust rpartition rsplit rstrip
    setdefault split splitlines startswith strip update upper values zfill bit_length add discard __init__""".split()
LIBRARY = {
    "heapq": {"heappush", "heappop", "heapify", "heapreplace", "heappushpop"},
    "math": {"gcd", "lcm", "isqrt", "comb", "perm", "factorial"},
    "itertools": {"product", "combinations", "permutations", "chain", "accumulate", "pairwise", "islice", "zip_longest"},
    "collections": {"defaultdict"},
}
BARRED_NAMES = {"register", "mro", "elements", "open", "input", "law", "version_info", "with_traceback", "add_note"}
BARRED_WORDS = r"\b(type|typing|enum|Enum|Generic|Protocol|ABC|namedtuple|NamedTuple|TypedDict)\b"
BARRED_NODES = (ast.Global, ast.AsyncFunctionDef, ast.Await, ast.AsyncFor, ast.AsyncWith, ast.Import, ast.Div)


def is_double(name):
    return name.startswith("__") and name.endswith("__")


class LanguageTest(unittest.TestCase):
    def files(self):
        for path in sorted(PACKAGE.rglob("*.py")):
            text = path.read_text(encoding="utf-8")
            yield path, text, ast.parse(text, path.name)

    def test_the_folder_contains_python_files_only(self):
        found = [path.name for path in PACKAGE.iterdir() if path.name != "__pycache__"]
        self.assertIn("__init__.py", found)
        for name in found:
            self.assertRegex(name, r"^[a-z_][a-z0-9_]*\.py$")

    def test_sizes_and_characters(self):
        for _, text, _ in self.files():
            self.assertTrue(all(sign == "\n" or " " <= sign <= "~" for sign in text))
            lines = text.splitlines()
            self.assertLessEqual(len(lines), 399)
            self.assertLessEqual(max(map(len, lines), default=0), 120)

    def test_functions_are_short(self):
        for _, _, tree in self.files():
            for node in ast.walk(tree):
                if isinstance(node, ast.FunctionDef):
                    self.assertLessEqual(node.end_lineno - node.lineno + 1, 40, node.name)

    def test_imports_name_the_file_that_defines(self):
        for path, _, tree in self.files():
            for node in ast.walk(tree):
                if isinstance(node, ast.ImportFrom):
                    self.assertIn(node, tree.body)
                    self.assertEqual(node.level, 0)
                    for name in node.names:
                        self.assertIsNone(name.asname)
                        if node.module in LIBRARY:
                            self.assertIn(name.name, LIBRARY[node.module])
                        else:
                            self.check_import(path, node.module, name.name)

    def check_import(self, path, module, name):
        package, file = module.split(".")
        self.assertEqual(package, "hushedpages")
        self.assertNotEqual(file, path.stem)
        other = ast.parse((PACKAGE / f"{file}.py").read_text())
        defined = [node.name for node in other.body if isinstance(node, (ast.FunctionDef, ast.ClassDef))]
        defined += [goal.id for node in other.body if isinstance(node, ast.Assign) for goal in node.targets]
        self.assertIn(name, defined)

    def test_no_two_files_import_from_each_other(self):
        wants = {}
        for path, _, tree in self.files():
            wants[path.stem] = {node.module.split(".")[1] for node in tree.body
                                if isinstance(node, ast.ImportFrom) and node.module not in LIBRARY}
        while wants:
            free = [name for name in wants if not wants[name] & set(wants)]
            self.assertTrue(free, wants)
            wants = {name: wants[name] for name in wants if name not in free}

    def test_module_level(self):
        for _, _, tree in self.files():
            names = []
            for node in tree.body:
                self.assertIsInstance(node, (ast.Expr, ast.ImportFrom, ast.FunctionDef, ast.ClassDef, ast.Assign))
                if isinstance(node, ast.Expr):
                    self.assertIs(node, tree.body[0])
                    self.assertIsInstance(node.value.value, str)
                elif isinstance(node, ast.Assign):
                    self.assertEqual(len(node.targets), 1)
                    names.append(node.targets[0].id)
                elif isinstance(node, ast.ImportFrom):
                    names.extend(name.name for name in node.names)
                else:
                    names.append(node.name)
            self.assertEqual(len(names), len(set(names)))

    def test_no_barred_statements(self):
        for _, _, tree in self.files():
            for node in ast.walk(tree):
                self.assertNotIsInstance(node, BARRED_NODES, getattr(node, "lineno", ""))
                if isinstance(node, ast.Constant):
                    self.assertNotIsInstance(node.value, (float, complex))
                if isinstance(node, ast.Constant) and isinstance(node.value, str):
                    self.assertNotIn(chr(37), node.value)

    def test_builtins_and_their_methods(self):
        own = {node.name for _, _, tree in self.files() for node in ast.walk(tree)
               if isinstance(node, (ast.FunctionDef, ast.ClassDef))}
        self.assertFalse([name for name in own if hasattr(builtins, name) and not is_double(name)])
        for _, _, tree in self.files():
            for node in ast.walk(tree):
                # Whoever shows results in this process, as doctest does, has left a builtin of the name _.
                if isinstance(node, ast.Name) and node.id != "_" and hasattr(builtins, node.id):
                    self.assertIn(node.id, BUILTINS)
                    self.assertIsInstance(node.ctx, ast.Load, node.id)
                if isinstance(node, ast.Call) and isinstance(node.func, ast.Attribute):
                    self.assertIn(node.func.attr, [*METHODS, *own])

    def test_names(self):
        for _, text, tree in self.files():
            names = []
            for node in ast.walk(tree):
                for part in ("id", "attr", "arg", "name"):
                    if isinstance(getattr(node, part, None), str):
                        names.append(getattr(node, part))
            for name in names:
                self.assertNotIn(name, BARRED_NAMES)
                self.assertTrue(is_double(name) or not name.startswith("__"), name)
            code = re.sub(r'"""(.|\n)*?"""|#.*', "", text)
            self.assertIsNone(re.search(BARRED_WORDS, code))

    def test_parameters_hide_no_name_of_the_file(self):
        for _, _, tree in self.files():
            taken = {name.name for node in tree.body if isinstance(node, ast.ImportFrom) for name in node.names}
            taken |= {node.name for node in tree.body if isinstance(node, ast.ClassDef)}
            for node in ast.walk(tree):
                if isinstance(node, ast.arg):
                    self.assertNotIn(node.arg, taken)
                    self.assertFalse(hasattr(builtins, node.arg), node.arg)
                if isinstance(node, ast.Name) and isinstance(node.ctx, ast.Store):
                    self.assertNotIn(node.id, taken)


if __name__ == "__main__":
    unittest.main()
