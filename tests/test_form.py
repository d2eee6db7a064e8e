"""The greater part of the language's rules (L1 to L10, L12, L14 to L27, some of them in part), held against the
package's files."""

import ast
import builtins
import pathlib
import re
import unittest

PACKAGE = pathlib.Path(__file__).resolve().parent.parent / "twowaypen"
FILES = sorted(PACKAGE.glob("*.py"))
BUILT_IN = set(
    "len range enumerate zip min max sum abs sorted reversed int str bool list tuple dict set frozenset isinstance "
    "ord repr any all divmod Exception ValueError TypeError KeyError IndexError LookupError ZeroDivisionError "
    "ArithmeticError OverflowError RuntimeError NotImplementedError AttributeError StopIteration".split()
)
SPECIAL = {"__init__", "__eq__", "__repr__", "__str__", "__len__"}
WORDS = re.compile(
    r"\b(type|typing|typing_extensions|enum|Enum|IntEnum|StrEnum|Flag|IntFlag|Generic|Protocol|ABC|ABCMeta"
    r"|namedtuple|NamedTuple|TypedDict|TYPE_CHECKING|abstractmethod)\b|dataclass|overload|contextmanager"
)
NODES = tuple(getattr(ast, name) for name in (
    "Module Import ImportFrom alias FunctionDef arguments arg ClassDef Assign AugAssign If While For Return Break "
    "Continue Pass Raise Try ExceptHandler Expr Lambda Constant Name Attribute Subscript Slice Call keyword List Tuple "
    "Dict Set BinOp UnaryOp BoolOp Compare IfExp ListComp comprehension JoinedStr FormattedValue expr_context "
    "operator unaryop boolop cmpop"
).split())
BARRED = (ast.Div, ast.MatMult)
METHODS = set(
    "append clear copy count endswith extend find get index insert isalnum isalpha isdigit islower isspace isupper "
    "items join keys ljust lower lstrip partition pop remove replace reverse rfind rjust rpartition rsplit rstrip "
    "setdefault split splitlines startswith strip update upper values zfill bit_length".split()
)


def nodes_of(file):
    return list(ast.walk(ast.parse(file.read_text(encoding="utf-8"))))


def names_of(node):
    if isinstance(node, ast.Name):
        return [node.id]
    if isinstance(node, ast.Attribute):
        return [node.attr]
    if isinstance(node, (ast.FunctionDef, ast.ClassDef)):
        return [node.name]
    return [node.arg] if isinstance(node, ast.arg) else []


def with_parents(file):
    """Each node with the nodes around it, from the inside to the outside."""
    found = []

    def go(node, around):
        found.append((node, around))
        for child in ast.iter_child_nodes(node):
            go(child, [node, *around])

    go(ast.parse(file.read_text(encoding="utf-8")), [])
    return found


def called(node):
    """The name of a function that is called by its name, or of a method."""
    if not isinstance(node, ast.Call):
        return None
    return node.func.id if isinstance(node.func, ast.Name) else getattr(node.func, "attr", None)


def is_plain(node, functions):
    if isinstance(node, (ast.List, ast.Tuple)):
        return all(is_plain(each, functions) for each in node.elts)
    if isinstance(node, ast.Dict):
        return all(is_plain(each, functions) for each in [*node.keys, *node.values])
    return isinstance(node, ast.Constant) or (isinstance(node, ast.Name) and node.id in functions)


def is_walked_at_once(node, around):
    outer = around[0]
    if isinstance(outer, (ast.For, ast.comprehension)):
        return outer.iter is node
    if called(outer) in ("min", "max"):
        return outer.args == [node]
    if called(outer) == "join":
        return isinstance(outer.func.value, ast.Constant)
    return called(outer) in FIRST_IN and (outer.args[0] is node or called(outer) == "zip")


KEYWORDS = {"sorted": {"key", "reverse"}, "min": {"key", "default"}, "max": {"key", "default"}, "sum": {"start"},
            "enumerate": {"start"}, "zip": {"strict"}}
WALKED = {"zip", "enumerate", "reversed", "range", "items", "keys", "values"}
FIRST_IN = {"list", "tuple", "dict", "sorted", "sum", "any", "all", "enumerate", "zip"}


class Form(unittest.TestCase):
    def test_files(self):
        self.assertIn(PACKAGE / "__init__.py", FILES)
        others = [each for each in PACKAGE.iterdir() if each.name != "__pycache__"]
        self.assertEqual(sorted(others), FILES)
        for file in FILES:
            self.assertRegex(file.name, r"\A[a-z0-9_]+\.py\Z")

    def test_sizes_and_signs(self):
        for file in FILES:
            text = file.read_text(encoding="utf-8")
            self.assertLessEqual(len(text.split("\n")), 401, file)
            self.assertRegex(text, r"\A[\n -~]*\Z", file)
            self.assertLessEqual(max(len(row) for row in text.split("\n")), 120, file)
            for node in nodes_of(file):
                if isinstance(node, ast.FunctionDef):
                    self.assertLessEqual(node.end_lineno - node.lineno + 1, 40, (file, node.name))

    def test_words(self):
        for file in FILES:
            self.assertIsNone(WORDS.search(file.read_text(encoding="utf-8")), file)

    def test_imports(self):
        for file in FILES:
            for node in nodes_of(file):
                self.assertNotIsInstance(node, ast.Import, file)
                if isinstance(node, ast.ImportFrom):
                    self.assertEqual(node.level, 0, file)
                    self.assertTrue((PACKAGE.parent / (node.module.replace(".", "/") + ".py")).is_file(), node.module)

    def test_no_two_files_draw_from_one_another(self):
        drawn = {file.stem: {node.module.rpartition(".")[2] for node in nodes_of(file)
                             if isinstance(node, ast.ImportFrom)} for file in FILES}
        while drawn:
            free = [name for name, others in drawn.items() if not others & set(drawn)]
            self.assertNotEqual(free, [], drawn)
            for name in free:
                del drawn[name]

    def test_names_are_drawn_from_the_file_that_defines_them(self):
        for file in FILES:
            for node in nodes_of(file):
                if isinstance(node, ast.ImportFrom):
                    source = ast.parse((PACKAGE.parent / (node.module.replace(".", "/") + ".py")).read_text())
                    defined = {name for each in source.body for name in names_of(each)}
                    defined |= {target.id for each in source.body if isinstance(each, ast.Assign)
                                for target in each.targets}
                    for name in node.names:
                        self.assertIn(name.name, defined, (file, node.module))

    def test_no_name_is_a_method_and_a_value(self):
        nodes = [node for file in FILES for node in nodes_of(file)]
        methods = {each.name for node in nodes if isinstance(node, ast.ClassDef) for each in node.body
                   if isinstance(each, ast.FunctionDef)}
        values = {node.attr for node in nodes if isinstance(node, ast.Attribute) and isinstance(node.ctx, ast.Store)}
        self.assertEqual(methods & values, set())

    def test_statements_and_expressions(self):
        for file in FILES:
            for node in nodes_of(file):
                self.assertIsInstance(node, NODES, (file, node))
                self.assertNotIsInstance(node, BARRED, (file, node))
                if isinstance(node, ast.Assign):
                    self.assertEqual(len(node.targets), 1, (file, node.lineno))
                if isinstance(node, (ast.FunctionDef, ast.ClassDef)):
                    self.assertEqual(node.decorator_list, [], (file, node.name))
                if isinstance(node, ast.Constant):
                    self.assertNotIsInstance(node.value, (float, bytes), (file, node.lineno))

    def test_names(self):
        for file in FILES:
            for node in nodes_of(file):
                for name in names_of(node):
                    self.assertTrue(name in SPECIAL or not name.startswith("_"), (file, name))
                if isinstance(node, ast.Name) and hasattr(builtins, node.id):
                    self.assertIn(node.id, BUILT_IN, (file, node.lineno))

    def test_nothing_is_called_like_a_name_of_pythons_own(self):
        for file in FILES:
            nodes = nodes_of(file)
            taken = [name.asname or name.name for node in nodes if isinstance(node, ast.ImportFrom)
                     for name in node.names]
            for node in nodes:
                name = node.arg if isinstance(node, ast.arg) else None
                if isinstance(node, ast.Name) and isinstance(node.ctx, ast.Store):
                    name = node.id
                if name is not None:
                    self.assertFalse(hasattr(builtins, name), (file, name))
                    self.assertNotIn(name, taken, file)

    def test_parameters_are_plain(self):
        for file in FILES:
            for node in nodes_of(file):
                if isinstance(node, ast.arguments):
                    self.assertEqual((node.vararg, node.kwarg, node.kwonlyargs, node.posonlyargs), (None, None, [], []))

    def test_methods(self):
        own = {node.name for file in FILES for node in nodes_of(file) if isinstance(node, ast.FunctionDef)}
        for file in FILES:
            for node in nodes_of(file):
                if isinstance(node, ast.Call) and isinstance(node.func, ast.Attribute):
                    self.assertIn(node.func.attr, METHODS | own, (file, node.lineno))

    def test_is_and_handlers(self):
        for file in FILES:
            for node in nodes_of(file):
                if isinstance(node, ast.Compare) and any(isinstance(sign, (ast.Is, ast.IsNot)) for sign in node.ops):
                    self.assertIsInstance(node.comparators[-1], ast.Constant, (file, node.lineno))
                if isinstance(node, ast.ExceptHandler):
                    self.assertIsNotNone(node.type, (file, node.lineno))

    def test_the_top_of_a_file(self):
        for file in FILES:
            functions = []
            for at, node in enumerate(ast.parse(file.read_text(encoding="utf-8")).body):
                if isinstance(node, ast.FunctionDef):
                    functions.append(node.name)
                elif isinstance(node, ast.Assign):
                    self.assertIsInstance(node.targets[0], ast.Name, (file, node.lineno))
                    self.assertTrue(is_plain(node.value, functions), (file, node.lineno))
                    for inner in getattr(node.value, "values", getattr(node.value, "elts", [])):
                        self.assertNotIsInstance(inner, (ast.List, ast.Dict), (file, node.lineno))
                else:
                    docstring = isinstance(node, ast.Expr) and isinstance(node.value, ast.Constant) and at == 0
                    self.assertTrue(docstring or isinstance(node, (ast.ImportFrom, ast.ClassDef)), (file, node.lineno))

    def test_each_name_of_the_top_once(self):
        for file in FILES:
            body = ast.parse(file.read_text(encoding="utf-8")).body
            names = [name for node in body for name in names_of(node)]
            names += [node.targets[0].id for node in body if isinstance(node, ast.Assign)]
            names += [name.name for node in body if isinstance(node, ast.ImportFrom) for name in node.names]
            self.assertEqual(len(set(names)), len(names), file)

    def test_classes(self):
        classes = {node.name for file in FILES for node in nodes_of(file) if isinstance(node, ast.ClassDef)}
        for file in FILES:
            for node, around in with_parents(file):
                if isinstance(node, ast.ClassDef):
                    self.assertIsInstance(around[0], ast.Module, (file, node.name))
                    self.assertLessEqual(len(node.bases), 1, (file, node.name))
                    self.assertEqual(node.keywords, [], (file, node.name))
                    for inner in node.body:
                        self.assertIsInstance(inner, (ast.FunctionDef, ast.Pass), (file, node.name))
                if isinstance(node, ast.Name) and node.id in classes:
                    outer = around[0]
                    fits = isinstance(outer, (ast.ClassDef, ast.ExceptHandler, ast.Raise)) or (
                        isinstance(outer, ast.Call) and (outer.func is node or called(outer) == "isinstance")
                    ) or (isinstance(outer, ast.Attribute) and outer.attr == "__init__")
                    self.assertTrue(fits, (file, node.lineno))

    def test_no_annotations(self):
        for file in FILES:
            for node in nodes_of(file):
                self.assertNotIsInstance(node, ast.AnnAssign, file)
                if isinstance(node, ast.FunctionDef):
                    self.assertIsNone(node.returns, (file, node.name))
                if isinstance(node, ast.arg):
                    self.assertIsNone(node.annotation, (file, node.lineno))

    def test_keywords(self):
        for file in FILES:
            for node in nodes_of(file):
                if isinstance(node, ast.Call):
                    self.assertLessEqual({each.arg for each in node.keywords}, KEYWORDS.get(called(node), set()),
                                         (file, node.lineno))

    def test_walked_at_once(self):
        for file in FILES:
            for node, around in with_parents(file):
                if called(node) in WALKED:
                    self.assertTrue(is_walked_at_once(node, around), (file, node.lineno))

    def test_sets_stand_within_sorted_or_len_or_beside_a_comparison(self):
        for file in FILES:
            for node, around in with_parents(file):
                self.assertNotIsInstance(node, ast.Set, file)
                if called(node) in ("set", "frozenset"):
                    outer = next(each for each in around if not isinstance(each, ast.BinOp))
                    self.assertTrue(isinstance(outer, ast.Compare) or called(outer) in ("sorted", "len"),
                                    (file, node.lineno))

    def test_comprehensions(self):
        for file in FILES:
            for node in nodes_of(file):
                if isinstance(node, ast.ListComp):
                    self.assertEqual(len(node.generators), 1, (file, node.lineno))
                    self.assertLessEqual(len(node.generators[0].ifs), 1, (file, node.lineno))

    def test_numbers_and_texts(self):
        for file in FILES:
            for node in nodes_of(file):
                if isinstance(node, ast.BinOp) and isinstance(node.op, ast.Pow):
                    self.assertIsInstance(node.right, ast.Constant, (file, node.lineno))
                if isinstance(node, ast.Constant) and isinstance(node.value, str):
                    self.assertNotIn("%", node.value, (file, node.lineno))

    def test_what_a_loop_walks_is_not_changed_in_it(self):
        changes = {"append", "clear", "extend", "insert", "pop", "remove", "reverse", "setdefault", "update"}
        for file in FILES:
            for node in nodes_of(file):
                if isinstance(node, ast.For):
                    walked = {ast.unparse(each) for each in ast.walk(node.iter)
                              if isinstance(each, (ast.Name, ast.Attribute))}
                    for inner in [each for statement in node.body for each in ast.walk(statement)]:
                        if called(inner) in changes and isinstance(inner.func, ast.Attribute):
                            self.assertNotIn(ast.unparse(inner.func.value), walked, (file, inner.lineno))
                        if isinstance(inner, ast.Subscript) and isinstance(inner.ctx, ast.Store):
                            safe = called(node.iter) == "list"
                            self.assertTrue(safe or ast.unparse(inner.value) not in walked, (file, inner.lineno))

    def test_lists_and_dicts_of_the_top_are_only_read(self):
        for file in FILES:
            body = ast.parse(file.read_text(encoding="utf-8")).body
            kept = {node.targets[0].id for node in body
                    if isinstance(node, ast.Assign) and isinstance(node.value, (ast.List, ast.Dict))}
            for node, around in with_parents(file):
                if isinstance(node, ast.Name) and node.id in kept and isinstance(node.ctx, ast.Load):
                    outer = around[0]
                    read = isinstance(outer, ast.Subscript) and outer.value is node and isinstance(outer.ctx, ast.Load)
                    self.assertTrue(read or isinstance(outer, ast.Compare), (file, node.lineno))


if __name__ == "__main__":
    unittest.main()
