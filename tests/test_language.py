"""The package keeps to the small language: what of its rules can be seen in the code."""

import ast
import builtins
import pathlib
import re
import unittest

PACKAGE = pathlib.Path(__file__).resolve().parent.parent / "pilerun"
BUILTINS = set("""len range enumerate zip min max sum abs sorted reversed int str bool bytes list tuple dict set
    frozenset isinstance ord repr any all divmod type Exception ValueError TypeError KeyError IndexError LookupError
    ZeroDivisionError ArithmeticError OverflowError RuntimeError NotImplementedError""".split())
METHODS = set("""append clear copy count endswith extend find get index insert isalnum isalpha isdigit islower isspace
    isupper items join keys ljust lower lstrip partition pop remove replace reverse rfind rjust rpartition rsplit rstrip
    setdefault split splitlines startswith strip update upper values zfill bit_length add discard""".split())
WORDS = set("""register mro elements open input law version_info with_traceback add_note attrgetter breakpoint builtins
    compile copyright credits delattr dir eval exec exit gc globals help id importlib license locals methodcaller os
    quit vars sys typing enum Enum namedtuple dataclass""".split())
KINDS = set("int str bool list tuple dict set".split())
TOP = (ast.ImportFrom, ast.FunctionDef, ast.ClassDef, ast.Assign)
# The language allows some of these in places; the package needs none of them.
BARRED = (ast.AsyncFunctionDef, ast.Await, ast.Global, ast.Nonlocal, ast.Import, ast.Lambda, ast.Yield, ast.YieldFrom,
          ast.Try, ast.With, ast.Match, ast.AnnAssign, ast.Set, ast.SetComp, ast.Starred, ast.JoinedStr)


def files():
    return sorted(PACKAGE.glob("**/*.py"))


def trees():
    return [(path, ast.parse(path.read_text(encoding="ascii"))) for path in files()]


def nodes(kind):
    return [(path, node) for path, tree in trees() for node in ast.walk(tree) if isinstance(node, kind)]


def bound_names(tree):
    """All names that a file gives a meaning to, but for attributes."""
    names = []
    for node in ast.walk(tree):
        if isinstance(node, (ast.FunctionDef, ast.ClassDef)):
            names.append(node.name)
        elif isinstance(node, ast.arg):
            names.append(node.arg)
        elif isinstance(node, ast.Name) and isinstance(node.ctx, ast.Store):
            names.append(node.id)
    return names


def is_type_call(node):
    return isinstance(node, ast.Call) and isinstance(node.func, ast.Name) and node.func.id == "type"


class FilesTest(unittest.TestCase):
    def test_the_folder_holds_files_of_the_package_alone(self):
        for path in PACKAGE.iterdir():
            if path.name != "__pycache__":
                self.assertRegex(path.name, r"^[a-z_][a-z0-9_]*\.py$")
        self.assertTrue((PACKAGE / "__init__.py").exists())

    def test_characters_and_sizes(self):
        for path in files():
            text = path.read_text(encoding="ascii")
            self.assertRegex(text, r"\A[ -~\n]*\Z")
            rows = text.splitlines()
            self.assertLessEqual(len(rows), 399)
            self.assertLessEqual(max(len(row) for row in rows), 120)

    def test_functions_are_small(self):
        for _, node in nodes(ast.FunctionDef):
            self.assertLessEqual(node.end_lineno - node.lineno + 1, 40, node.name)

    def test_words(self):
        for path in files():
            self.assertEqual(set(re.findall(r"[A-Za-z_]+", path.read_text())) & WORDS, set(), path)


class CodeTest(unittest.TestCase):
    def test_module_level(self):
        for path, tree in trees():
            for node in tree.body:
                told = isinstance(node, ast.Expr) and isinstance(node.value, ast.Constant)
                self.assertTrue(told or isinstance(node, TOP), (path, node.lineno))

    def test_imports_are_from_the_package_and_from_the_file_that_defines(self):
        defined = {path.stem: set(bound_names(tree)) for path, tree in trees()}
        for path, node in nodes(ast.ImportFrom):
            self.assertEqual(node.level, 0)
            self.assertTrue(node.module.startswith("pilerun."), (path, node.module))
            for name in node.names:
                self.assertIsNone(name.asname)
                self.assertIn(name.name, defined[node.module.split(".")[1]])

    def test_no_two_files_import_from_each_other(self):
        needs = {path.stem: set() for path in files()}
        for path, node in nodes(ast.ImportFrom):
            needs[path.stem].add(node.module.split(".")[1])
        while needs:
            free = [stem for stem in needs if not needs[stem] & set(needs)]
            self.assertTrue(free, needs)
            for stem in free:
                del needs[stem]

    def test_statements_and_signs(self):
        self.assertEqual([(path, node.lineno) for path, node in nodes(BARRED)], [])
        self.assertEqual([node for _, node in nodes(ast.BinOp) if isinstance(node.op, (ast.Pow, ast.Div))], [])
        for _, node in nodes((ast.FunctionDef, ast.ClassDef)):
            self.assertEqual(node.decorator_list, [])
        for _, node in nodes(ast.Constant):
            self.assertNotIsInstance(node.value, (float, complex))
            self.assertNotIn("%", str(node.value))

    def test_is_stands_beside_none_true_and_false_and_between_kinds(self):
        for path, node in nodes(ast.Compare):
            for sign, right in zip(node.ops, node.comparators):
                if isinstance(sign, (ast.Is, ast.IsNot)) and not is_type_call(node.left):
                    self.assertIsInstance(right, ast.Constant, (path, node.lineno))

    def test_type_stands_before_is_and_a_kind_alone(self):
        asked = 0
        for path, node in nodes(ast.Compare):
            if is_type_call(node.left):
                asked += 1
                self.assertEqual(len(node.ops), 1, (path, node.lineno))
                self.assertIsInstance(node.ops[0], (ast.Is, ast.IsNot), (path, node.lineno))
                self.assertIsInstance(node.comparators[0], ast.Name, (path, node.lineno))
                self.assertIn(node.comparators[0].id, KINDS, (path, node.lineno))
        self.assertEqual(len([node for _, node in nodes(ast.Name) if node.id == "type"]), asked)

    def test_names(self):
        for path, tree in trees():
            for name in bound_names(tree):
                self.assertFalse(name in vars(builtins), (path, name))
                self.assertRegex(name, r"^(_?[A-Za-z][A-Za-z0-9_]*|_|__init__)$")

    def test_builtins(self):
        for path, node in nodes(ast.Name):
            if node.id in vars(builtins):
                self.assertIn(node.id, BUILTINS, (path, node.lineno))

    def test_methods(self):
        own = {node.name for _, node in nodes(ast.FunctionDef)}
        for path, node in nodes(ast.Call):
            if isinstance(node.func, ast.Attribute):
                self.assertIn(node.func.attr, METHODS | own, (path, node.lineno))

    def test_each_raise_makes_its_error_on_the_spot(self):
        for path, node in nodes(ast.Raise):
            self.assertIsInstance(node.exc, ast.Call, (path, node.lineno))
            self.assertIsInstance(node.exc.func, ast.Name)

    def test_no_name_is_a_method_and_an_attribute(self):
        methods = {node.name for _, node in nodes(ast.FunctionDef)}
        stored = {node.attr for _, node in nodes(ast.Attribute) if isinstance(node.ctx, ast.Store)}
        self.assertEqual(methods & stored, set())

    def test_each_file_function_and_class_says_what_it_is(self):
        for path, tree in trees():
            self.assertTrue(ast.get_docstring(tree), path)
        for path, node in nodes((ast.FunctionDef, ast.ClassDef)):
            if node.name != "__init__":
                self.assertTrue(ast.get_docstring(node), (path, node.name))
