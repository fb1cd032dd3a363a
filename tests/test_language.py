"""The package keeps to the small part of Python that it is written in, as far as a look at its trees can tell."""

import ast
import builtins
import pathlib
import re
import unittest

PACKAGE = pathlib.Path(__file__).resolve().parent.parent / "goodblocks"

NODES = (
    "Module Import ImportFrom alias FunctionDef arguments arg ClassDef Lambda Assign AugAssign If While For Return "
    "Break Continue Pass Raise Try ExceptHandler Expr Constant List Tuple Dict BinOp UnaryOp BoolOp Compare IfExp Call "
    "keyword Attribute Subscript Slice ListComp comprehension JoinedStr FormattedValue Name Load Store "
    "Add Sub Mult FloorDiv Mod Pow BitOr BitAnd BitXor LShift RShift Invert USub UAdd Not And Or "
    "Eq NotEq Lt LtE Gt GtE Is IsNot In NotIn"
).split()
OWN_NAMES = (
    "len range enumerate zip min max sum abs sorted reversed int str bool list tuple dict set frozenset isinstance ord "
    "repr any all divmod Exception ValueError TypeError KeyError IndexError LookupError ZeroDivisionError "
    "ArithmeticError OverflowError RuntimeError NotImplementedError StopIteration"
).split()
METHODS = (
    "append clear copy count endswith extend find get index insert isalnum isalpha isdigit islower isspace isupper "
    "items join keys ljust lower lstrip partition pop remove replace reverse rfind rjust rpartition rsplit rstrip "
    "setdefault split splitlines startswith strip update upper values zfill bit_length"
).split()
WORDS = (
    "type typing typing_extensions enum Enum IntEnum StrEnum Flag IntFlag Generic Protocol ABC ABCMeta namedtuple "
    "NamedTuple TypedDict TYPE_CHECKING abstractmethod"
).split()
UNUSED = "register mro elements open input version_info with_traceback add_note format format_map".split()
TWO_UNDERSCORES = ("__init__", "__eq__", "__repr__", "__str__", "__len__")
WALKED = ("zip", "enumerate", "reversed", "range")
BUILTINS = set(dir(builtins))


def files():
    return sorted(path for path in PACKAGE.rglob("*") if "__pycache__" not in path.parts)


def trees():
    return [(path.name, ast.parse(path.read_text())) for path in files()]


def nodes(kinds):
    return [(name, node) for name, tree in trees() for node in ast.walk(tree) if isinstance(node, kinds)]


def own_attributes():
    """Names of the package's own methods and values of objects."""
    methods = {node.name for name, node in nodes(ast.FunctionDef)}
    values = {node.attr for name, node in nodes(ast.Attribute) if isinstance(node.ctx, ast.Store)}
    return methods | values


class FilesTest(unittest.TestCase):
    def test_plain_files_alone(self):
        for path in files():
            self.assertRegex(path.name, r"^(__init__|[a-z][a-z0-9_]*)\.py$")

    def test_signs_and_sizes(self):
        for path in files():
            text = path.read_text()
            self.assertRegex(text, r"\A[ -~\n]*\Z", path.name)
            lines = text.splitlines()
            self.assertLessEqual(len(lines), 400, path.name)
            self.assertLessEqual(max(map(len, lines)), 120, path.name)

    def test_words_that_stand_nowhere(self):
        for path in files():
            words = set(re.findall(r"\w+", path.read_text()))
            self.assertEqual(set(), words & set(WORDS), path.name)

    def test_functions_are_short(self):
        for name, node in nodes(ast.FunctionDef):
            self.assertLessEqual(node.end_lineno - node.lineno + 1, 40, node.name)


class TreesTest(unittest.TestCase):
    def test_nodes(self):
        for name, node in nodes(ast.AST):
            self.assertIn(type(node).__name__, NODES, (name, getattr(node, "lineno", 0)))

    def test_imports_stand_at_the_top_and_name_the_package(self):
        for name, node in nodes((ast.Import, ast.ImportFrom)):
            self.assertIsInstance(node, ast.ImportFrom, name)
            self.assertRegex(node.module, r"^goodblocks\.[a-z]+$")
            self.assertEqual((0, 0), (node.level, node.col_offset))
            self.assertTrue(all(part.asname is None and part.name != "*" for part in node.names))

    def test_imports_are_used(self):
        for name, tree in trees():
            used = {node.id for node in ast.walk(tree) if isinstance(node, ast.Name)}
            for node in tree.body:
                if isinstance(node, ast.ImportFrom):
                    self.assertEqual(set(), {part.name for part in node.names} - used, name)

    def test_no_circle_of_imports(self):
        drawn = {name[:-3]: {node.module.split(".")[1] for node in tree.body if isinstance(node, ast.ImportFrom)}
                 for name, tree in trees()}
        while drawn:
            free = [name for name in drawn if not drawn[name] & set(drawn)]
            self.assertNotEqual([], free, drawn)
            for name in free:
                del drawn[name]

    def test_the_top_of_a_module(self):
        for name, tree in trees():
            for at, node in enumerate(tree.body):
                docstring = at == 0 and isinstance(node, ast.Expr) and isinstance(node.value, ast.Constant)
                allowed = isinstance(node, (ast.ImportFrom, ast.FunctionDef, ast.ClassDef, ast.Assign))
                self.assertTrue(docstring or allowed, (name, node.lineno))

    def test_names_at_the_top_are_bound_once(self):
        for name, tree in trees():
            bound = []
            for node in tree.body:
                if isinstance(node, ast.ImportFrom):
                    bound += [part.name for part in node.names]
                elif isinstance(node, (ast.FunctionDef, ast.ClassDef)):
                    bound.append(node.name)
                elif isinstance(node, ast.Assign):
                    bound.append(node.targets[0].id)
                    self.assertNotIsInstance(node.value, (ast.List, ast.Dict), name)
            self.assertEqual(len(bound), len(set(bound)), name)

    def test_plain_functions(self):
        for name, node in nodes((ast.FunctionDef, ast.ClassDef)):
            self.assertEqual([], node.decorator_list, node.name)
            if isinstance(node, ast.FunctionDef):
                spec = node.args
                self.assertEqual((None, None, [], []), (spec.vararg, spec.kwarg, spec.kwonlyargs, spec.posonlyargs))
                self.assertIsNone(node.returns)
                self.assertTrue(all(each.annotation is None for each in spec.args))

    def test_one_target_and_no_else_behind_a_loop(self):
        for name, node in nodes((ast.Assign, ast.For, ast.While)):
            if isinstance(node, ast.Assign):
                self.assertEqual(1, len(node.targets), name)
            else:
                self.assertEqual([], node.orelse, name)

    def test_comprehensions(self):
        for name, node in nodes(ast.ListComp):
            self.assertEqual(1, len(node.generators), name)
            self.assertLessEqual(len(node.generators[0].ifs), 1, name)

    def test_constants(self):
        for name, node in nodes(ast.Constant):
            self.assertIn(type(node.value), (int, str, bool, type(None)), (name, node.lineno))
            if isinstance(node.value, str):
                self.assertNotIn("%", node.value, (name, node.lineno))

    def test_is_stands_beside_none_true_false(self):
        for name, node in nodes(ast.Compare):
            for sign, right in zip(node.ops, node.comparators):
                if isinstance(sign, (ast.Is, ast.IsNot)):
                    self.assertIsInstance(right, ast.Constant, (name, node.lineno))


class NamesTest(unittest.TestCase):
    def test_python_names_that_are_read(self):
        for name, node in nodes(ast.Name):
            if isinstance(node.ctx, ast.Load) and node.id in BUILTINS:
                self.assertIn(node.id, OWN_NAMES, (name, node.lineno))

    def test_no_name_hides_another(self):
        for name, tree in trees():
            taken = set(BUILTINS)
            for node in tree.body:
                if isinstance(node, ast.ImportFrom):
                    taken |= {part.name for part in node.names}
                elif isinstance(node, ast.ClassDef):
                    taken.add(node.name)
            names = [node for node in ast.walk(tree) if isinstance(node, ast.Name)]
            stored = {node.id for node in names if isinstance(node.ctx, ast.Store)}
            stored |= {node.arg for node in ast.walk(tree) if isinstance(node, ast.arg)}
            self.assertEqual(set(), stored & taken, name)

    def test_plain_names(self):
        found = [node.id for name, node in nodes(ast.Name)] + [node.arg for name, node in nodes(ast.arg)]
        found += [node.attr for name, node in nodes(ast.Attribute)]
        found += [node.name for name, node in nodes((ast.FunctionDef, ast.ClassDef))]
        for each in found:
            self.assertTrue(each in TWO_UNDERSCORES or re.fullmatch("[A-Za-z][A-Za-z0-9_]*", each), each)
            self.assertNotIn(each, UNUSED)

    def test_attributes(self):
        own = own_attributes()
        for name, node in nodes(ast.Attribute):
            self.assertTrue(node.attr in own or node.attr in METHODS, (name, node.attr))

    def test_own_attributes_are_free(self):
        taken = set(dir(str)) | set(dir(int)) | set(dir(list)) | set(dir(dict)) | set(dir(set)) | set(dir(bytes))
        found = {node.attr for name, node in nodes(ast.Attribute) if isinstance(node.ctx, ast.Store)}
        for name, node in nodes(ast.ClassDef):
            found |= {each.name for each in node.body if isinstance(each, ast.FunctionDef)}
        self.assertEqual(set(), (found & taken) - {"__init__"})

    def test_no_name_is_a_method_and_a_value(self):
        values = {node.attr for name, node in nodes(ast.Attribute) if isinstance(node.ctx, ast.Store)}
        for name, node in nodes(ast.ClassDef):
            self.assertEqual(set(), values & {each.name for each in node.body if isinstance(each, ast.FunctionDef)})

    def test_walks_on_the_spot(self):
        for name, tree in trees():
            at_once = set()
            for node in ast.walk(tree):
                if isinstance(node, (ast.For, ast.comprehension)):
                    at_once.add(node.iter)
                elif isinstance(node, ast.Call) and isinstance(node.func, ast.Name) and node.args:
                    at_once.add(node.args[0])
            for node in ast.walk(tree):
                if isinstance(node, ast.Call) and isinstance(node.func, ast.Name) and node.func.id in WALKED:
                    self.assertIn(node, at_once, (name, node.lineno))


if __name__ == "__main__":
    unittest.main()
