"""A part of the language's rules (L1, L2, L4, L6 to L8, L10, L12, L14 to L20, L25), held against the
package's files."""

import ast
import builtins
import pathlib
import re
import unittest

PACKAGE = pathlib.Path(__file__).resolve().parent.parent / "twowaypen"
FILES = sorted(PACKAGE.glob("*.py"))
BUILT_IN = set(
    "len range enumerate zip min max sum abs sorted reversed int str bool list tuple dict set frozenset isinstance "
    "ord repr any all divmod Exception ValueError TypeError KeyError IndexError LookupError ZeroDivisionError "
    "ArithmeticError OverflowError RuntimeError NotImplementedError AttributeError StopIteration".split()
)
SPECIAL = {"__init__", "__eq__", "__repr__", "__str__", "__len__"}
WORDS = re.compile(
    r"\b(type|typing|typing_extensions|enum|Enum|IntEnum|StrEnum|Flag|IntFlag|Generic|Protocol|ABC|ABCMeta"
    r"|namedtuple|NamedTuple|TypedDict|TYPE_CHECKING|abstractmethod)\b|dataclass|overload|contextmanager"
)
NODES = tuple(getattr(ast, name) for name in (
    "Module Import ImportFrom alias FunctionDef arguments arg ClassDef Assign AugAssign If While For Return Break "
    "Continue Pass Raise Try ExceptHandler Expr Lambda Constant Name Attribute Subscript Slice Call keyword List Tuple "
    "Dict Set BinOp UnaryOp BoolOp Compare IfExp ListComp comprehension JoinedStr FormattedValue expr_context "
    "operator unaryop boolop cmpop"
).split())
BARRED = (ast.Div, ast.MatMult)
METHODS = set(
    "append clear copy count endswith extend find get index insert isalnum isalpha isdigit islower isspace isupper "
    "items join keys ljust lower lstrip partition pop remove replace reverse rfind rjust rpartition rsplit rstrip "
    "setdefault split splitlines startswith strip update upper values zfill bit_length".split()
)


def nodes_of(file):
    return list(ast.walk(ast.parse(file.read_text(encoding="utf-8"))))


def names_of(node):
    if isinstance(node, ast.Name):
        return [node.id]
    if isinstance(node, ast.Attribute):
        return [node.attr]
    if isinstance(node, (ast.FunctionDef, ast.ClassDef)):
        return [node.name]
    return [node.arg] if isinstance(node, ast.arg) else []


class Form(unittest.TestCase):
    def test_files(self):
        self.assertIn(PACKAGE / "__init__.py", FILES)
        others = [each for each in PACKAGE.iterdir() if each.name != "__pycache__"]
        self.assertEqual(sorted(others), FILES)
        for file in FILES:
            self.assertRegex(file.name, r"\A[a-z0-9_]+\.py\Z")

    def test_sizes_and_signs(self):
        for file in FILES:
            text = file.read_text(encoding="utf-8")
            self.assertLessEqual(len(text.split("\n")), 401, file)
            self.assertRegex(text, r"\A[\n -~]*\Z", file)
            self.assertLessEqual(max(len(row) for row in text.split("\n")), 120, file)
            for node in nodes_of(file):
                if isinstance(node, ast.FunctionDef):
                    self.assertLessEqual(node.end_lineno - node.lineno + 1, 40, (file, node.name))

    def test_words(self):
        for file in FILES:
            self.assertIsNone(WORDS.search(file.read_text(encoding="utf-8")), file)

    def test_imports(self):
        for file in FILES:
            for node in nodes_of(file):
                self.assertNotIsInstance(node, ast.Import, file)
                if isinstance(node, ast.ImportFrom):
                    self.assertEqual(node.level, 0, file)
                    self.assertTrue((PACKAGE.parent / (node.module.replace(".", "/") + ".py")).is_file(), node.module)

    def test_no_two_files_draw_from_one_another(self):
        drawn = {file.stem: {node.module.rpartition(".")[2] for node in nodes_of(file)
                             if isinstance(node, ast.ImportFrom)} for file in FILES}
        while drawn:
            free = [name for name, others in drawn.items() if not others & set(drawn)]
            self.assertNotEqual(free, [], drawn)
            for name in free:
                del drawn[name]

    def test_names_are_drawn_from_the_file_that_defines_them(self):
        for file in FILES:
            for node in nodes_of(file):
                if isinstance(node, ast.ImportFrom):
                    source = ast.parse((PACKAGE.parent / (node.module.replace(".", "/") + ".py")).read_text())
                    defined = {name for each in source.body for name in names_of(each)}
                    defined |= {target.id for each in source.body if isinstance(each, ast.Assign)
                                for target in each.targets}
                    for name in node.names:
                        self.assertIn(name.name, defined, (file, node.module))

    def test_no_name_is_a_method_and_a_value(self):
        nodes = [node for file in FILES for node in nodes_of(file)]
        methods = {each.name for node in nodes if isinstance(node, ast.ClassDef) for each in node.body
                   if isinstance(each, ast.FunctionDef)}
        values = {node.attr for node in nodes if isinstance(node, ast.Attribute) and isinstance(node.ctx, ast.Store)}
        self.assertEqual(methods & values, set())

    def test_statements_and_expressions(self):
        for file in FILES:
            for node in nodes_of(file):
                self.assertIsInstance(node, NODES, (file, node))
                self.assertNotIsInstance(node, BARRED, (file, node))
                if isinstance(node, ast.Assign):
                    self.assertEqual(len(node.targets), 1, (file, node.lineno))
                if isinstance(node, (ast.FunctionDef, ast.ClassDef)):
                    self.assertEqual(node.decorator_list, [], (file, node.name))
                if isinstance(node, ast.Constant):
                    self.assertNotIsInstance(node.value, (float, bytes), (file, node.lineno))

    def test_names(self):
        for file in FILES:
            for node in nodes_of(file):
                for name in names_of(node):
                    self.assertTrue(name in SPECIAL or not name.startswith("_"), (file, name))
                if isinstance(node, ast.Name) and hasattr(builtins, node.id):
                    self.assertIn(node.id, BUILT_IN, (file, node.lineno))

    def test_nothing_is_called_like_a_name_of_pythons_own(self):
        for file in FILES:
            nodes = nodes_of(file)
            taken = [name.asname or name.name for node in nodes if isinstance(node, ast.ImportFrom)
                     for name in node.names]
            for node in nodes:
                name = node.arg if isinstance(node, ast.arg) else None
                if isinstance(node, ast.Name) and isinstance(node.ctx, ast.Store):
                    name = node.id
                if name is not None:
                    self.assertFalse(hasattr(builtins, name), (file, name))
                    self.assertNotIn(name, taken, file)

    def test_parameters_are_plain(self):
        for file in FILES:
            for node in nodes_of(file):
                if isinstance(node, ast.arguments):
                    self.assertEqual((node.vararg, node.kwarg, node.kwonlyargs, node.posonlyargs), (None, None, [], []))

    def test_methods(self):
        own = {node.name for file in FILES for node in nodes_of(file) if isinstance(node, ast.FunctionDef)}
        for file in FILES:
            for node in nodes_of(file):
                if isinstance(node, ast.Call) and isinstance(node.func, ast.Attribute):
                    self.assertIn(node.func.attr, METHODS | own, (file, node.lineno))

    def test_is_and_handlers(self):
        for file in FILES:
            for node in nodes_of(file):
                if isinstance(node, ast.Compare) and any(isinstance(sign, (ast.Is, ast.IsNot)) for sign in node.ops):
                    self.assertIsInstance(node.comparators[-1], ast.Constant, (file, node.lineno))
                if isinstance(node, ast.ExceptHandler):
                    self.assertIsNotNone(node.type, (file, node.lineno))


if __name__ == "__main__":
    unittest.main()
