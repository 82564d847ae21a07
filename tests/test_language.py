"""The rules of the language subset that can be seen in the files of the package."""

import ast
import builtins
import unittest
from pathlib import Path

PACKAGE = Path(__file__).resolve().parent.parent / "pointsenough"
LIBRARY = {
    "heapq": {"heappush", "heappop", "heapify", "heapreplace", "heappushpop"},
    "math": {"gcd", "lcm", "isqrt", "comb", "perm", "factorial"},
    "itertools": {
        "product", "combinations", "permutations", "chain", "accumulate", "pairwise", "islice", "zip_longest"},
    "collections": {"defaultdict"},
    "__future__": {"annotations"},
}
USED_BUILTINS = set("""
len range enumerate zip min max sum abs sorted reversed int str bool bytes list tuple dict set frozenset isinstance ord
repr any all divmod pow getattr hasattr setattr iter next map super property staticmethod classmethod object float
Exception ValueError TypeError KeyError IndexError LookupError ZeroDivisionError ArithmeticError OverflowError
RuntimeError NotImplementedError AttributeError StopIteration NotImplemented
""".split())
# Whoever runs examples leaves the name "_" behind among the builtins, which is none of them.
ALL_BUILTINS = set(dir(builtins)) - {"_"}
FORBIDDEN = (ast.Global, ast.AsyncFunctionDef, ast.Await, ast.AsyncFor, ast.AsyncWith, ast.Div, ast.MatMult)


def package_files():
    return sorted(path for path in PACKAGE.rglob("*") if "__pycache__" not in path.parts and path.is_file())


def defined_names(tree):
    told = set()
    for node in tree.body:
        if isinstance(node, (ast.FunctionDef, ast.ClassDef)):
            told.add(node.name)
        elif isinstance(node, ast.Assign):
            told.update(target.id for target in node.targets)
        elif isinstance(node, ast.AnnAssign):
            told.add(node.target.id)
    return told


class LanguageTest(unittest.TestCase):
    @classmethod
    def setUpClass(cls):
        cls.texts = {path: path.read_text(encoding="utf-8") for path in package_files()}
        cls.trees = {path: ast.parse(text) for path, text in cls.texts.items()}
        cls.defined = {path.stem: defined_names(tree) for path, tree in cls.trees.items()}

    def nodes(self):
        for path, tree in self.trees.items():
            for node in ast.walk(tree):
                yield f"{path.name}:{getattr(node, 'lineno', 0)}", path, node

    def test_files(self):
        self.assertTrue((PACKAGE / "__init__.py").is_file())
        self.assertLessEqual(len(self.texts), 100)
        for path in self.texts:
            self.assertRegex(path.name, r"\A[a-z0-9_]+\.py\Z")

    def test_sizes_and_characters(self):
        for path, text in self.texts.items():
            rows = text.removesuffix("\n").split("\n")
            self.assertLessEqual(len(rows), 399, path.name)
            for at, row in enumerate(rows, 1):
                self.assertLessEqual(len(row), 120, (path.name, at))
                self.assertTrue(all(" " <= sign <= "~" for sign in row), (path.name, at))

    def test_functions_are_short(self):
        for where, _, node in self.nodes():
            if isinstance(node, ast.FunctionDef):
                self.assertLessEqual(node.end_lineno - node.lineno + 1, 40, where)

    def test_imports(self):
        for where, path, node in self.nodes():
            if isinstance(node, ast.Import):
                told = [(alias.name, alias.asname) for alias in node.names]
                self.assertEqual((path.name, told), ("__main__.py", [("sys", None)]), where)
            if isinstance(node, ast.ImportFrom):
                self.assertEqual(node.level, 0, where)
                names = {alias.name for alias in node.names}
                folder, _, file = node.module.partition(".")
                if folder == "pointsenough":
                    self.assertLessEqual(names, self.defined[file], where)
                else:
                    self.assertLessEqual(names, LIBRARY[node.module], where)

    def test_no_two_files_import_from_each_other(self):
        ahead = {}
        for _, path, node in self.nodes():
            if isinstance(node, ast.ImportFrom) and node.module.startswith("pointsenough."):
                ahead.setdefault(path.stem, set()).add(node.module.partition(".")[2])
        for start in ahead:
            reached, waiting = set(), list(ahead[start])
            while waiting:
                file = waiting.pop()
                if file not in reached:
                    reached.add(file)
                    waiting.extend(ahead.get(file, ()))
            self.assertNotIn(start, reached)

    def test_nothing_forbidden(self):
        for where, _, node in self.nodes():
            self.assertNotIsInstance(node, FORBIDDEN, where)
            if isinstance(node, ast.Constant):
                self.assertNotIsInstance(node.value, (float, complex), where)
                if isinstance(node.value, str):
                    self.assertNotIn("%", node.value, where)

    def test_builtins(self):
        barred = ALL_BUILTINS - USED_BUILTINS
        for where, path, node in self.nodes():
            if isinstance(node, ast.Name):
                if path.name != "__main__.py" or node.id not in ("print", "__name__"):
                    self.assertNotIn(node.id, barred, where)
                if isinstance(node.ctx, ast.Store):
                    self.assertNotIn(node.id, ALL_BUILTINS, where)
            if isinstance(node, ast.arg):
                self.assertNotIn(node.arg, ALL_BUILTINS, where)
            if isinstance(node, (ast.FunctionDef, ast.ClassDef)) and not node.name.startswith("__"):
                self.assertNotIn(node.name, ALL_BUILTINS, where)

    def test_locals_have_no_name_of_an_import_or_class(self):
        for path, tree in self.trees.items():
            taken = {node.name for node in tree.body if isinstance(node, ast.ClassDef)}
            for node in tree.body:
                if isinstance(node, ast.ImportFrom):
                    taken.update(alias.name for alias in node.names)
            for node in ast.walk(tree):
                if isinstance(node, ast.Name) and isinstance(node.ctx, ast.Store):
                    self.assertNotIn(node.id, taken, path.name)
                if isinstance(node, ast.arg):
                    self.assertNotIn(node.arg, taken, path.name)
                if isinstance(node, (ast.MatchAs, ast.MatchStar)):
                    self.assertNotIn(node.name, taken, path.name)

    def test_captured_names_are_no_parameters_and_no_builtins(self):
        for where, _, function in self.nodes():
            if isinstance(function, ast.FunctionDef):
                nodes = list(ast.walk(function))
                captured = {node.name for node in nodes if isinstance(node, (ast.MatchAs, ast.MatchStar))} - {None}
                other = {node.arg for node in nodes if isinstance(node, ast.arg)}
                other |= {node.id for node in nodes if isinstance(node, ast.Name) and isinstance(node.ctx, ast.Store)}
                self.assertEqual(captured & (other | ALL_BUILTINS), set(), where)

    def test_nothing_is_reckoned_at_module_level(self):
        for path, tree in self.trees.items():
            for statement in tree.body:
                if isinstance(statement, ast.Assign):
                    for node in ast.walk(statement.value):
                        plain = (ast.Constant, ast.Tuple, ast.List, ast.Dict, ast.Name, ast.Load, ast.UnaryOp, ast.USub)
                        self.assertIsInstance(node, plain, (path.name, statement.lineno))
                else:
                    kinds = (ast.FunctionDef, ast.ClassDef, ast.ImportFrom, ast.Expr)
                    self.assertIsInstance(statement, kinds, (path.name, statement.lineno))

    def test_lists_and_dicts_of_modules_are_not_passed_on(self):
        for path, tree in self.trees.items():
            kept = {target.id for statement in tree.body if isinstance(statement, ast.Assign)
                    for target in statement.targets if isinstance(statement.value, (ast.List, ast.Dict))}
            for node in ast.walk(tree):
                if isinstance(node, ast.Call):
                    handed = {item.id for item in node.args if isinstance(item, ast.Name)}
                    if not isinstance(node.func, ast.Name) or node.func.id not in ("len", "list", "dict", "sorted"):
                        self.assertEqual(handed & kept, set(), (path.name, node.lineno))

    def test_barred_names(self):
        barred = set("register mro elements open input law version_info with_traceback add_note".split())
        barred_names = set("""
            attrgetter breakpoint builtins compile copyright credits delattr dir eval exec exit gc globals help id importlib
            license locals methodcaller os quit super type vars sys""".split())
        for where, _, node in self.nodes():
            for name in (getattr(node, "id", None), getattr(node, "arg", None), getattr(node, "name", None)):
                self.assertNotIn(name, barred | barred_names, where)
            self.assertNotIn(getattr(node, "attr", None), barred, where)

    def test_imports_are_used(self):
        for path, tree in self.trees.items():
            used = {node.id for node in ast.walk(tree) if isinstance(node, ast.Name)}
            for node in tree.body:
                if isinstance(node, ast.ImportFrom):
                    self.assertLessEqual({alias.name for alias in node.names}, used, path.name)


if __name__ == "__main__":
    unittest.main()
