"""The form of the package's own files: the rules of the language that a look at each file can tell."""

import ast
import builtins
import pathlib
import re
import unittest

PACKAGE = pathlib.Path(__file__).resolve().parent.parent / "roomtouch"
BUILTINS = """len range enumerate zip min max sum abs sorted reversed int str bool list tuple dict set frozenset isinstance
ord repr any all divmod Exception ValueError TypeError KeyError IndexError LookupError ZeroDivisionError ArithmeticError
OverflowError RuntimeError NotImplementedError AttributeError StopIteration""".split()
METHODS = """append clear copy count endswith extend find get index insert isalnum isalpha isdigit islower isspace isupper
items join keys ljust lower lstrip partition pop remove replace reverse rfind rjust rpartition rsplit rstrip setdefault
split splitlines startswith strip update upper values zfill bit_length""".split()
NODES = """Module FunctionDef ClassDef Return Assign AugAssign For While If Raise Try ImportFrom Expr Pass Break Continue
BoolOp BinOp UnaryOp Lambda IfExp Dict Set ListComp Compare Call JoinedStr FormattedValue Constant Attribute Subscript
Name List Tuple Slice Load Store And Or Add Sub Mult Mod Pow LShift RShift BitOr BitXor BitAnd FloorDiv Invert Not USub
Eq NotEq Lt LtE Gt GtE Is IsNot In NotIn comprehension ExceptHandler arguments arg keyword alias""".split()
WORDS = """type typing typing_extensions enum Enum IntEnum StrEnum Flag IntFlag Generic Protocol ABC ABCMeta namedtuple
NamedTuple TypedDict TYPE_CHECKING abstractmethod""".split()


def files():
    return sorted(PACKAGE.rglob("*.py"))


def trees():
    return [(path.name, ast.parse(path.read_text())) for path in files()]


def nodes(kind):
    return [(name, node) for name, tree in trees() for node in ast.walk(tree) if isinstance(node, kind)]


class Form(unittest.TestCase):
    def test_the_package_holds_plain_files_alone(self):
        for path in PACKAGE.rglob("*"):
            if "__pycache__" not in path.parts and path.name != "__pycache__":
                self.assertRegex(path.name, r"^([a-z][a-z0-9_]*|__init__|__main__)\.py$")
        self.assertIn("__init__.py", [path.name for path in files()])

    def test_sizes_and_signs(self):
        for path in files():
            text = path.read_text()
            self.assertLessEqual(len(text.splitlines()), 400, path.name)
            self.assertRegex(text, r"^[ -~\n]*$", path.name)
            self.assertLessEqual(max(len(line) for line in text.splitlines()), 120, path.name)
        for name, node in nodes(ast.FunctionDef):
            self.assertLessEqual(node.end_lineno - node.lineno + 1, 40, (name, node.name))

    def test_words_that_stand_nowhere(self):
        for path in files():
            text = path.read_text()
            for word in WORDS:
                self.assertIsNone(re.search(r"\b" + word + r"\b", text), (path.name, word))
            for word in ["dataclass", "overload", "contextmanager"]:
                self.assertNotIn(word, text, path.name)

    def test_statements_and_expressions(self):
        for name, node in nodes(ast.AST):
            self.assertIn(node.__class__.__name__, NODES, (name, getattr(node, "lineno", 0)))

    def test_imports_are_of_the_package_alone(self):
        for name, node in nodes(ast.ImportFrom):
            self.assertEqual(node.level, 0, name)
            self.assertRegex(node.module, r"^roomtouch\.")
            self.assertNotIn("*", [alias.name for alias in node.names])

    def test_no_two_files_draw_from_one_another(self):
        drawn = {path.stem: set() for path in files()}
        for name, node in nodes(ast.ImportFrom):
            drawn[name[:-3]].add(node.module.split(".")[1])
        while drawn:
            free = [name for name in drawn if not drawn[name] & set(drawn)]
            self.assertNotEqual(free, [], drawn)
            drawn = {name: drawn[name] for name in drawn if name not in free}

    def test_no_parameter_or_local_is_called_like_a_class_or_an_import(self):
        for name, tree in trees():
            taken = {node.name for node in ast.walk(tree) if isinstance(node, ast.ClassDef)}
            for node in ast.walk(tree):
                if isinstance(node, ast.ImportFrom):
                    taken |= {alias.name for alias in node.names}
            for node in ast.walk(tree):
                if isinstance(node, ast.arg):
                    self.assertNotIn(node.arg, taken, name)
                if isinstance(node, ast.Name) and isinstance(node.ctx, ast.Store):
                    self.assertNotIn(node.id, taken, name)

    def test_methods_and_values_have_names_of_their_own(self):
        methods = {part.name for _, node in nodes(ast.ClassDef) for part in node.body if isinstance(part, ast.FunctionDef)}
        values = {node.attr for _, node in nodes(ast.Attribute) if isinstance(node.ctx, ast.Store)}
        self.assertEqual(methods & values, set())
        self.assertEqual(values & set(METHODS), set())

    def test_is_and_plain_f_strings(self):
        for name, node in nodes(ast.Compare):
            for step, right in zip(node.ops, node.comparators):
                if isinstance(step, (ast.Is, ast.IsNot)):
                    self.assertIsInstance(right, ast.Constant, name)
        for name, node in nodes(ast.FormattedValue):
            self.assertIsInstance(node.value, ast.Name, name)
            self.assertIsNone(node.format_spec, name)

    def test_names(self):
        barred = set(dir(builtins)) - set(BUILTINS)
        for name, node in nodes(ast.Name):
            self.assertNotIn(node.id, barred, name)
            self.assertRegex(node.id, r"^[A-Za-z]", name)
            if isinstance(node.ctx, ast.Store):
                self.assertNotIn(node.id, dir(builtins), name)
        for name, node in nodes(ast.arg):
            self.assertNotIn(node.arg, dir(builtins), name)
            self.assertIsNone(node.annotation, name)

    def test_defs_are_plain(self):
        for name, node in nodes((ast.FunctionDef, ast.ClassDef)):
            self.assertEqual(node.decorator_list, [], (name, node.name))
        for name, node in nodes(ast.arguments):
            self.assertEqual((node.vararg, node.kwarg, node.kwonlyargs, node.posonlyargs), (None, None, [], []), name)
        for name, node in nodes((ast.For, ast.While)):
            self.assertEqual(node.orelse, [], name)
        for name, node in nodes(ast.Assign):
            self.assertEqual(len(node.targets), 1, name)
        for name, node in nodes(ast.ListComp):
            self.assertEqual(len(node.generators), 1, name)
            self.assertLessEqual(len(node.generators[0].ifs), 1, name)

    def test_methods(self):
        own = [node.name for name, node in nodes(ast.FunctionDef)]
        for name, node in nodes(ast.Call):
            if isinstance(node.func, ast.Attribute):
                self.assertIn(node.func.attr, METHODS + own, name)


if __name__ == "__main__":
    unittest.main()
