"""The package keeps to the subset of Python that it is written in, as far as this can be told simply."""

import ast
import builtins
import pathlib
import re
import unittest
import warnings

PACKAGE = pathlib.Path(__file__).resolve().parent.parent / "stockcounts"
FILES = sorted(path for path in PACKAGE.rglob("*") if path.is_file() and "__pycache__" not in path.parts)

ALLOWED_BUILTINS = set("""
    len range enumerate zip min max sum abs sorted reversed int str bool list tuple dict set isinstance ord repr
    any all divmod pow map iter next property staticmethod classmethod super
    Exception ValueError TypeError KeyError IndexError LookupError ZeroDivisionError ArithmeticError OverflowError
    RuntimeError NotImplementedError AttributeError StopIteration NotImplemented""".split())

LIBRARY = ("heapq", "math", "itertools", "collections")

ALLOWED_STATEMENTS = (
    ast.Assign, ast.AugAssign, ast.If, ast.While, ast.For, ast.Return, ast.Break, ast.Continue, ast.Pass, ast.Raise,
    ast.Assert, ast.Delete, ast.Try, ast.Expr, ast.FunctionDef, ast.ClassDef, ast.ImportFrom)

BARRED_WORDS = set("""
    type typing typing_extensions enum Enum IntEnum StrEnum Flag IntFlag Generic Protocol ABC ABCMeta namedtuple
    NamedTuple TypedDict TYPE_CHECKING abstractmethod dataclass overload contextmanager""".split())

BARRED_NAMES = set("""
    register mro elements open input law version_info with_traceback add_note breakpoint compile copyright dir eval
    exec exit gc globals help id license locals os quit vars _cold _tuplegetter _outside _record _written_out
    _member_names""".split())

BARRED_SHAPES = re.compile(
    r"_(wall|pe_|dcw_|enum_|cm_|twin_re_|lay_|law_|stub_|sre).*"
    r"|_(cold|tuplegetter|outside|record|written_out|member_names)[0-9_]*")

METHODS_OF_VALUES = set("""
    append clear copy count endswith extend find get index insert isalnum isalpha isdigit islower isspace isupper
    items join keys ljust lower lstrip partition pop remove replace reverse rfind rjust rpartition rsplit rstrip
    setdefault split splitlines startswith strip update upper values zfill bit_length sort""".split())


def trees():
    return [(path, ast.parse(path.read_text(encoding="utf-8"))) for path in FILES]


def nodes(kinds):
    return [(path.name, node) for path, tree in trees() for node in ast.walk(tree) if isinstance(node, kinds)]


def docstrings():
    held = nodes((ast.Module, ast.FunctionDef, ast.ClassDef))
    return {ast.get_docstring(node, clean=False) for _, node in held} - {None}


def is_property(node):
    return any(getattr(mark, "id", None) == "property" for mark in node.decorator_list)


class LanguageTest(unittest.TestCase):

    def test_files(self):
        self.assertIn(PACKAGE / "__init__.py", FILES)
        for path in FILES:
            self.assertRegex(path.name, r"^(__init__|__main__|[a-z][a-z0-9_]*)\.py$")

    def test_sizes_and_signs(self):
        for path in FILES:
            text = path.read_bytes().decode("ascii")
            lines = text.split("\n")
            self.assertLess(len(lines), 400, path.name)
            self.assertLessEqual(max(len(line) for line in lines), 120, path.name)
            self.assertIsNone(re.search(r"[^ -~\n]", text), path.name)

    def test_functions_are_short(self):
        for name, node in nodes(ast.FunctionDef):
            self.assertLessEqual(node.end_lineno - node.lineno + 1, 40, (name, node.name))

    def test_no_warnings(self):
        with warnings.catch_warnings():
            warnings.simplefilter("error")
            for path in FILES:
                compile(path.read_text(encoding="utf-8"), path.name, "exec")

    def test_imports(self):
        self.assertEqual([name for name, _ in nodes(ast.Import) if name != "__main__.py"], [])
        for name, node in nodes(ast.ImportFrom):
            self.assertEqual(node.level, 0, name)
            if node.module in LIBRARY:
                continue
            self.assertTrue(node.module.startswith("stockcounts."), (name, node.module))
            for alias in node.names:
                self.assertIsNone(alias.asname)
                defined = PACKAGE.joinpath(*node.module.split(".")[1:]).with_suffix(".py").read_text()
                self.assertRegex(defined, rf"(?m)^(def |class )?{alias.name}\b", (name, alias.name))

    def test_statements(self):
        for name, node in nodes(ast.stmt):
            held = isinstance(node, ALLOWED_STATEMENTS)
            yields = isinstance(node, ast.Expr) and isinstance(node.value, (ast.Yield, ast.YieldFrom))
            self.assertTrue(held or yields, (name, node.lineno))

    def test_builtins(self):
        for name, node in nodes(ast.Name):
            if hasattr(builtins, node.id):
                self.assertIn(node.id, ALLOWED_BUILTINS, (name, node.lineno))
                self.assertIsInstance(node.ctx, ast.Load, (name, node.lineno))

    def test_names(self):
        found = [node.id for _, node in nodes(ast.Name)] + [node.arg for _, node in nodes(ast.arg)]
        found += [node.name for _, node in nodes((ast.FunctionDef, ast.ClassDef))]
        found += [node.attr for _, node in nodes(ast.Attribute)]
        self.assertEqual(set(found) & BARRED_NAMES, set())
        self.assertEqual([name for name in found if BARRED_SHAPES.fullmatch(name)], [])
        bound = [node.arg for _, node in nodes(ast.arg)]
        self.assertEqual([name for name in bound if hasattr(builtins, name)], [])

    def test_imports_and_classes_have_their_names_alone(self):
        for path, tree in trees():
            held = {node.name for node in tree.body if isinstance(node, ast.ClassDef)}
            held |= {alias.name for node in tree.body if isinstance(node, ast.ImportFrom) for alias in node.names}
            bound = {node.id for node in ast.walk(tree) if isinstance(node, ast.Name) and isinstance(node.ctx, ast.Store)}
            bound |= {node.arg for node in ast.walk(tree) if isinstance(node, ast.arg)}
            bound |= {node.name for node in ast.walk(tree) if isinstance(node, (ast.FunctionDef, ast.ExceptHandler))}
            self.assertEqual(held & bound, set(), path.name)

    def test_values(self):
        texts = docstrings()
        for name, node in nodes(ast.Constant):
            self.assertNotIsInstance(node.value, (float, complex), (name, node.lineno))
            if isinstance(node.value, str) and node.value not in texts:
                self.assertNotIn("%", node.value, (name, node.lineno))
                self.assertEqual(set(re.findall(r"\w+", node.value)) & BARRED_WORDS, set(), (name, node.lineno))
        self.assertEqual(nodes((ast.Div, ast.MatMult)), [])

    def test_methods_that_are_called(self):
        own = {node.name for _, node in nodes(ast.FunctionDef)}
        for name, node in nodes(ast.Call):
            if isinstance(node.func, ast.Attribute):
                self.assertIn(node.func.attr, METHODS_OF_VALUES | own, (name, node.lineno))

    def test_generators_are_iterated_where_they_are_called(self):
        makers = {node.name for _, node in nodes(ast.FunctionDef)
                  if any(isinstance(part, (ast.Yield, ast.YieldFrom)) for part in ast.walk(node))}
        kept = [node for _, node in nodes((ast.Return, ast.Assign))
                if isinstance(node.value, ast.Call) and getattr(node.value.func, "id", None) in makers]
        self.assertEqual(kept, [])

    def test_properties_have_their_names_alone(self):
        found = {node.name for _, node in nodes(ast.FunctionDef) if is_property(node)}
        self.assertIn("records", found)
        others = {node.name for _, node in nodes((ast.FunctionDef, ast.ClassDef)) if not is_property(node)}
        stored = {node.attr for _, node in nodes(ast.Attribute) if isinstance(node.ctx, ast.Store)}
        # A function of a module is called by its bare name, so it may have the name of a property.
        self.assertEqual(found & (stored | (others - {"stocks"})), set())

    def test_what_properties_and_operators_run_stores_nothing(self):
        bodies = {}
        for name, node in nodes((ast.FunctionDef, ast.ClassDef)):
            # An error that is raised stores what it was made with, which changes nothing else.
            if name != "errors.py":
                bodies.setdefault(node.name, []).append(node)
        held = [node for _, node in nodes(ast.FunctionDef)
                if is_property(node) or node.name in ("__contains__", "__getitem__", "__len__", "__iter__")]
        self.assertGreater(len(held), 8)
        reached = []
        while held:
            node = held.pop()
            if node not in reached:
                reached.append(node)
                for call in [part for part in ast.walk(node) if isinstance(part, ast.Call)]:
                    held += bodies.get(getattr(call.func, "id", None) or getattr(call.func, "attr", None), [])
        for node in reached:
            for part in ast.walk(node):
                if isinstance(part, ast.Attribute):
                    self.assertIsInstance(part.ctx, ast.Load, (node.name, part.lineno))


if __name__ == "__main__":
    unittest.main()
