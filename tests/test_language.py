"""The package keeps to the small part of Python that LANGUAGE.md tells.

Asked here is what is easily seen: files, signs, sizes, forms, names, methods and imports. Not asked, or only in
part, are L13, L15, L18, L19, L22 to L24, L26 to L28: what is left of those is for the reader.
"""

import ast
import builtins
import re
import unittest
from pathlib import Path

PACKAGE = Path(__file__).resolve().parent.parent / "ringtrade"

STATEMENTS = (
    "Module FunctionDef ClassDef Assign AugAssign If While For Return Break Continue Pass Raise Try"
    " ExceptHandler Expr ImportFrom"
).split()
EXPRESSIONS = (
    "arguments arg Constant List Tuple Dict BinOp Add Sub Mult FloorDiv Mod Pow BitAnd BitOr BitXor LShift"
    " RShift Invert UnaryOp USub UAdd Not Compare Eq NotEq Lt LtE Gt GtE Is IsNot In NotIn BoolOp And Or IfExp"
    " Call keyword Attribute Subscript Slice ListComp comprehension JoinedStr FormattedValue Lambda Name Load"
    " Store alias"
).split()
NODES = set(STATEMENTS + EXPRESSIONS)
BUILTINS = set(
    "len range enumerate zip min max sum abs sorted reversed int str bool list tuple dict set frozenset"
    " isinstance ord repr any all divmod Exception ValueError TypeError KeyError IndexError LookupError"
    " ZeroDivisionError ArithmeticError OverflowError RuntimeError NotImplementedError AttributeError"
    " StopIteration".split()
)
METHODS = set(
    "append clear copy count endswith extend find get index insert isalnum isalpha isdigit islower isspace"
    " isupper items join keys ljust lower lstrip partition pop remove replace reverse rfind rjust rpartition"
    " rsplit rstrip setdefault split splitlines startswith strip update upper values zfill bit_length".split()
)
OWN_UNDERSCORES = {"__init__", "__eq__", "__repr__", "__str__", "__len__"}
WORDS = re.compile(
    r"\b(type|typing|typing_extensions|enum|Enum|IntEnum|StrEnum|Flag|IntFlag|Generic|Protocol|ABC|ABCMeta"
    r"|namedtuple|NamedTuple|TypedDict|TYPE_CHECKING|abstractmethod)\b|dataclass|overload|contextmanager"
)
NOT_USED = set("register mro elements open input version_info with_traceback add_note".split())


def files():
    return sorted(path for path in PACKAGE.rglob("*") if path.is_file() and path.parent.name != "__pycache__")


def trees():
    return [(path.stem, ast.parse(path.read_text("utf-8"))) for path in files()]


def bound_names(tree):
    names = set()
    for node in ast.walk(tree):
        if isinstance(node, (ast.FunctionDef, ast.ClassDef)):
            names.add(node.name)
        elif isinstance(node, ast.arg):
            names.add(node.arg)
        elif isinstance(node, ast.Name) and isinstance(node.ctx, ast.Store):
            names.add(node.id)
        elif isinstance(node, ast.ExceptHandler) and node.name:
            names.add(node.name)
    return names


def imports(tree):
    return [node for node in ast.walk(tree) if isinstance(node, ast.ImportFrom)]


def each(kind):
    """Each node of a kind, with the file and the line that a failing test names."""
    for stem, tree in trees():
        for node in ast.walk(tree):
            if isinstance(node, kind):
                yield f"{stem}.py, line {getattr(node, 'lineno', 0)}", node


def is_call_of(node, *names):
    return isinstance(node.func, ast.Name) and node.func.id in names


class LanguageTest(unittest.TestCase):
    def test_files(self):
        self.assertIn(PACKAGE / "__init__.py", files())
        for path in files():
            with self.subTest(path.name):
                self.assertRegex(path.name, r"^([a-z][a-z0-9_]*|__init__|__main__)\.py$")
                self.assertEqual(path.parent, PACKAGE)
                self.assertNotIn(path.stem, dir(builtins))

    def test_signs_and_sizes(self):
        for path in files():
            text = path.read_bytes().decode("ascii")
            with self.subTest(path.name):
                self.assertTrue(all(" " <= sign <= "~" or sign == "\n" for sign in text))
                self.assertLessEqual(len(text.split("\n")), 400)
                self.assertLessEqual(max(len(line) for line in text.split("\n")), 120)
                self.assertIsNone(WORDS.search(text))

    def test_functions(self):
        for where, node in each(ast.FunctionDef):
            self.assertLessEqual(node.end_lineno - node.lineno + 1, 40, where)
            self.assertEqual(node.decorator_list, [], where)
            self.assertIsNone(node.returns, where)
            self.assertIsNone(node.args.vararg or node.args.kwarg, where)
            self.assertEqual(node.args.kwonlyargs + node.args.posonlyargs, [], where)
            self.assertEqual([arg.arg for arg in node.args.args if arg.annotation], [], where)

    def test_classes(self):
        for where, node in each(ast.ClassDef):
            self.assertEqual(node.decorator_list + node.keywords, [], where)
            self.assertLessEqual(len(node.bases), 1, where)
            for part in node.body:
                self.assertIsInstance(part, (ast.FunctionDef, ast.Pass), where)

    def test_only_the_told_forms(self):
        for where, node in each(ast.AST):
            self.assertIn(node.__class__.__name__, NODES, where)

    def test_assignments_have_one_target(self):
        for where, node in each(ast.Assign):
            self.assertEqual(len(node.targets), 1, where)
            self.assertNotIsInstance(node.targets[0], (ast.Tuple, ast.List), where)

    def test_a_loop_and_a_try_have_no_more_than_told(self):
        for where, node in each((ast.For, ast.While)):
            self.assertEqual(node.orelse, [], where)
        for where, node in each(ast.Try):
            self.assertEqual(node.finalbody, [], where)

    def test_comprehensions(self):
        for where, node in each(ast.ListComp):
            self.assertEqual(len(node.generators), 1, where)
            self.assertLessEqual(len(node.generators[0].ifs), 1, where)

    def test_values(self):
        for where, node in each(ast.Constant):
            self.assertIn(node.value.__class__.__name__, ("int", "str", "bool", "NoneType"), where)
            self.assertNotIn("%", str(node.value), where)
        for where, node in each(ast.FormattedValue):
            self.assertIsInstance(node.value, ast.Name, where)
            self.assertIsNone(node.format_spec, where)

    def test_is_stands_beside_none_and_truths(self):
        for where, node in each(ast.Compare):
            if isinstance(node.ops[0], (ast.Is, ast.IsNot)):
                self.assertIsInstance(node.comparators[0], ast.Constant, where)

    def test_names_of_pythons_own(self):
        for stem, tree in trees():
            bound = bound_names(tree)
            drawn = {alias.name for node in imports(tree) for alias in node.names}
            with self.subTest(stem):
                self.assertEqual(sorted((bound | drawn) & set(dir(builtins))), [])
                self.assertEqual(sorted((bound | drawn) & NOT_USED), [])
                self.assertEqual([name for name in bound - OWN_UNDERSCORES if name.startswith("_")], [])
                used = {node.id for node in ast.walk(tree) if isinstance(node, ast.Name)}
                self.assertEqual(sorted(used - bound - drawn - BUILTINS), [])

    def test_methods_of_pythons_own_values(self):
        own = {node.name for stem, tree in trees() for node in ast.walk(tree) if isinstance(node, ast.FunctionDef)}
        for where, node in each(ast.Call):
            if isinstance(node.func, ast.Attribute):
                self.assertIn(node.func.attr, METHODS | own, where)

    def test_own_methods_and_values(self):
        methods = {node.name for where, kind in each(ast.ClassDef) for node in kind.body if hasattr(node, "name")}
        stored = {node.attr for where, node in each(ast.Attribute) if isinstance(node.ctx, ast.Store)}
        pythons = {name for kind in (str, int, list, dict, set, bytes, tuple) for name in dir(kind)}
        self.assertEqual(sorted(methods & stored), [])
        self.assertEqual(sorted((methods - OWN_UNDERSCORES) & pythons), [])
        self.assertEqual(sorted(stored & (pythons | {"args"})), [])

    def test_no_method_stands_twice(self):
        for where, kind in each(ast.ClassDef):
            names = [node.name for node in kind.body if isinstance(node, ast.FunctionDef)]
            self.assertEqual(len(names), len(set(names)), where)

    def test_what_is_raised_is_made_on_the_spot(self):
        classes = {node.name for where, node in each(ast.ClassDef)}
        for where, node in each(ast.Raise):
            self.assertIsInstance(node.exc, ast.Call, where)
            self.assertIn(node.exc.func.id, classes, where)

    def test_what_is_walked_is_not_kept(self):
        for where, node in each((ast.Assign, ast.Return)):
            if isinstance(node.value, ast.Call) and isinstance(node.value.func, ast.Name):
                self.assertNotIn(node.value.func.id, ("zip", "enumerate", "reversed", "range"), where)

    def test_a_set_stands_within_len_or_sorted(self):
        within = [ast.dump(node.args[0]) for where, node in each(ast.Call) if is_call_of(node, "len", "sorted")]
        for where, node in each(ast.Call):
            self.assertTrue(not is_call_of(node, "set", "frozenset") or ast.dump(node) in within, where)

    def test_imports(self):
        tops = {stem: {getattr(node, "name", None) for node in tree.body} for stem, tree in trees()}
        for stem, tree in trees():
            for node in tree.body:
                if isinstance(node, ast.Assign):
                    tops[stem].add(node.targets[0].id)
        for where, node in each(ast.ImportFrom):
            self.assertEqual(node.level, 0, where)
            self.assertRegex(node.module, r"^ringtrade\.[a-z_]+$", where)
            for alias in node.names:
                self.assertIn(alias.name, tops[node.module.split(".")[1]], where)
                self.assertIsNone(alias.asname, where)

    def test_no_parameter_and_no_local_is_called_like_an_import_or_a_class(self):
        for stem, tree in trees():
            taken = {alias.name for node in imports(tree) for alias in node.names}
            taken |= {node.name for node in tree.body if isinstance(node, ast.ClassDef)}
            for function in ast.walk(tree):
                if isinstance(function, ast.FunctionDef):
                    inner = bound_names(function) - {function.name}
                    self.assertEqual(sorted(inner & taken), [], f"{stem}.py, {function.name}")

    def test_no_two_files_draw_from_one_another(self):
        draws = {stem: {node.module.split(".")[1] for node in imports(tree)} for stem, tree in trees()}
        while draws:
            free = [stem for stem in draws if not draws[stem] & set(draws)]
            self.assertTrue(free, draws)
            draws = {stem: drawn for stem, drawn in draws.items() if stem not in free}


if __name__ == "__main__":
    unittest.main()
