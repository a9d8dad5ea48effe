"""The package keeps to the small part of Python that LANGUAGE.md tells: what of it can be seen in the code."""

import ast
import builtins
import pathlib
import re
import unittest

PACKAGE = pathlib.Path(__file__).resolve().parent.parent / "namecourt"

STATEMENTS = (
    ast.FunctionDef, ast.ClassDef, ast.Return, ast.Assign, ast.AugAssign, ast.For, ast.While, ast.If, ast.Raise,
    ast.Try, ast.ImportFrom, ast.Expr, ast.Pass, ast.Break, ast.Continue,
)
EXPRESSIONS = (
    ast.BoolOp, ast.BinOp, ast.UnaryOp, ast.Lambda, ast.IfExp, ast.Dict, ast.ListComp, ast.Compare, ast.Call,
    ast.FormattedValue, ast.JoinedStr, ast.Constant, ast.Attribute, ast.Subscript, ast.Name, ast.List, ast.Tuple,
    ast.Slice,
)
BUILTINS = """len range enumerate zip min max sum abs sorted reversed int str bool list tuple dict set frozenset
isinstance ord repr any all divmod Exception ValueError TypeError KeyError IndexError LookupError ZeroDivisionError
ArithmeticError OverflowError RuntimeError NotImplementedError AttributeError StopIteration""".split()
METHODS = """append clear copy count endswith extend find get index insert isalnum isalpha isdigit islower isspace
isupper items join keys ljust lower lstrip partition pop remove replace reverse rfind rjust rpartition rsplit rstrip
setdefault split splitlines startswith strip update upper values zfill bit_length""".split()
BUILTIN_KINDS = (str, int, list, dict, set, bytes)
NOT_AS_VALUES = """items keys values pop update append clear extend insert remove reverse setdefault sort args encode
format register mro elements open input version_info with_traceback add_note""".split()
WORDS_OUT = r"""\b(type|typing|typing_extensions|enum|Enum|IntEnum|StrEnum|Flag|IntFlag|Generic|Protocol|ABC|ABCMeta
|namedtuple|NamedTuple|TypedDict|TYPE_CHECKING|abstractmethod)\b|dataclass|overload|contextmanager""".replace("\n", "")


def sources():
    return {path.name: path.read_text(encoding="utf-8") for path in sorted(PACKAGE.glob("*.py"))}


def trees():
    return {name: ast.parse(source) for name, source in sources().items()}


def nodes(kind):
    return [(name, node) for name, tree in trees().items() for node in ast.walk(tree) if isinstance(node, kind)]


def is_plain(node, functions):
    """Whether a node is a value that may stand at a file's top."""
    if isinstance(node, ast.Name):
        return node.id in functions
    if isinstance(node, (ast.List, ast.Tuple)):
        return all(is_plain(part, functions) for part in node.elts)
    if isinstance(node, ast.Dict):
        return all(is_plain(part, functions) for part in node.keys + node.values)
    if isinstance(node, ast.UnaryOp):
        return isinstance(node.op, ast.USub) and isinstance(node.operand, ast.Constant)
    return isinstance(node, ast.Constant)


def bound_at_top(tree):
    names = []
    for node in tree.body:
        if isinstance(node, (ast.FunctionDef, ast.ClassDef)):
            names.append(node.name)
        elif isinstance(node, ast.Assign):
            names.append(node.targets[0].id)
        elif isinstance(node, ast.ImportFrom):
            names += [alias.name for alias in node.names]
    return names


def draws_from(tree):
    return [node.module.split(".")[1] + ".py" for node in tree.body if isinstance(node, ast.ImportFrom)]


class Files(unittest.TestCase):
    def test_only_plain_python_files(self):
        found = [path.name for path in PACKAGE.iterdir() if path.name != "__pycache__"]
        self.assertIn("__init__.py", found)
        for name in found:
            self.assertRegex(name, r"^(__init__|__main__|[a-z][a-z0-9_]*)\.py$")
            self.assertTrue(name.startswith("__") or not hasattr(builtins, name[:-3]))

    def test_signs_and_sizes(self):
        for name, source in sources().items():
            self.assertRegex(source, r"\A[ -~\n]*\Z", name)
            self.assertLessEqual(len(source.splitlines()), 400, name)
            self.assertLessEqual(max([len(line) for line in source.splitlines()], default=0), 120, name)
        for name, node in nodes(ast.FunctionDef):
            self.assertLessEqual(node.end_lineno - node.lineno + 1, 40, (name, node.name))

    def test_words_that_stand_nowhere(self):
        for name, source in sources().items():
            self.assertIsNone(re.search(WORDS_OUT, source), name)
        for name, node in nodes(ast.Constant):
            if isinstance(node.value, str):
                self.assertIsNone(re.search(WORDS_OUT, node.value), name)
                self.assertNotIn("%", node.value, name)


class TopOfFiles(unittest.TestCase):
    def test_imports_name_what_their_file_defines(self):
        files = trees()
        for name, node in nodes(ast.ImportFrom):
            self.assertEqual((node.level, node.module.split(".")[0]), (0, "namecourt"), name)
            source = files[node.module.split(".")[1] + ".py"]
            defined = [part for part in source.body if not isinstance(part, ast.ImportFrom)]
            for alias in node.names:
                self.assertIn(alias.name, bound_at_top(ast.Module(defined, [])), name)
                self.assertIsNone(alias.asname, name)

    def test_no_two_files_draw_from_one_another(self):
        files = trees()
        left = {name: draws_from(tree) for name, tree in files.items()}
        while left:
            free = [name for name in left if not set(left[name]) & set(left)]
            self.assertTrue(free, sorted(left))
            left = {name: left[name] for name in left if name not in free}

    def test_each_import_is_used(self):
        for name, tree in trees().items():
            used = [node.id for node in ast.walk(tree) if isinstance(node, ast.Name)]
            for node in tree.body:
                if isinstance(node, ast.ImportFrom):
                    for alias in node.names:
                        self.assertIn(alias.name, used, name)

    def test_plain_values_bound_once(self):
        for name, tree in trees().items():
            functions = [node.name for node in tree.body if isinstance(node, ast.FunctionDef)]
            self.assertEqual(len(bound_at_top(tree)), len(set(bound_at_top(tree))), name)
            for place, node in enumerate(tree.body):
                if isinstance(node, ast.Assign):
                    self.assertTrue(is_plain(node.value, functions), (name, node.lineno))
                elif isinstance(node, ast.Expr):
                    self.assertEqual((place, type(node.value)), (0, ast.Constant), name)
                else:
                    self.assertIsInstance(node, (ast.ImportFrom, ast.FunctionDef, ast.ClassDef), name)


class Code(unittest.TestCase):
    def test_statements_and_expressions(self):
        for name, node in nodes(ast.stmt):
            self.assertIsInstance(node, STATEMENTS, (name, node.lineno))
        for name, node in nodes(ast.expr):
            self.assertIsInstance(node, EXPRESSIONS, (name, node.lineno))
        for name, node in nodes(ast.Constant):
            self.assertIn(type(node.value), (int, str, bool, type(None)), (name, node.lineno))
        for name, node in nodes((ast.Div, ast.MatMult, ast.Pow)):
            self.fail(name)

    def test_forms_of_statements(self):
        for name, node in nodes(ast.Assign):
            self.assertEqual(len(node.targets), 1, (name, node.lineno))
        for name, node in nodes((ast.For, ast.While)):
            self.assertEqual(node.orelse, [], (name, node.lineno))
        for name, node in nodes(ast.ListComp):
            self.assertEqual(len(node.generators), 1, (name, node.lineno))
            self.assertLessEqual(len(node.generators[0].ifs), 1, (name, node.lineno))
        for name, node in nodes(ast.Compare):
            for operator, side in zip(node.ops, node.comparators):
                if isinstance(operator, (ast.Is, ast.IsNot)):
                    self.assertIsInstance(side, ast.Constant, (name, node.lineno))

    def test_functions_and_classes(self):
        for name, node in nodes(ast.FunctionDef):
            given = node.args
            extra = [given.vararg, given.kwarg, node.returns] + given.kwonlyargs + given.posonlyargs
            self.assertEqual([part for part in extra if part], [], (name, node.name))
            self.assertEqual(node.decorator_list, [], (name, node.name))
        for name, node in nodes(ast.ClassDef):
            self.assertEqual(node.decorator_list + node.keywords, [], (name, node.name))
            self.assertLessEqual(len(node.bases), 1, (name, node.name))


class Names(unittest.TestCase):
    def test_python_names_are_the_listed_ones(self):
        for name, tree in trees().items():
            own = bound_at_top(tree)
            own += [node.id for node in ast.walk(tree)
                    if isinstance(node, ast.Name) and isinstance(node.ctx, ast.Store)]
            own += [node.arg for node in ast.walk(tree) if isinstance(node, ast.arg)]
            for node in ast.walk(tree):
                if isinstance(node, ast.Name) and node.id not in own:
                    self.assertIn(node.id, BUILTINS, (name, node.lineno))

    def test_no_local_takes_another_meaning(self):
        for name, tree in trees().items():
            taken = [alias.name for node in tree.body if isinstance(node, ast.ImportFrom) for alias in node.names]
            taken += [node.name for node in tree.body if isinstance(node, ast.ClassDef)]
            for node in ast.walk(tree):
                local = node.arg if isinstance(node, ast.arg) else None
                if isinstance(node, ast.Name) and isinstance(node.ctx, ast.Store):
                    local = node.id
                if local is not None:
                    self.assertRegex(local, r"^[A-Za-z][A-Za-z0-9_]*$", name)
                    self.assertNotIn(local, taken, name)
                    self.assertFalse(hasattr(builtins, local), (name, local))
                    self.assertNotIn(local, NOT_AS_VALUES, name)

    def test_methods_and_values(self):
        methods = [part.name for name, node in nodes(ast.ClassDef)
                   for part in node.body if isinstance(part, ast.FunctionDef)]
        values = [node.attr for name, node in nodes(ast.Attribute) if isinstance(node.ctx, ast.Store)]
        self.assertEqual(set(methods) & set(values), set())
        for value in values:
            self.assertNotIn(value, NOT_AS_VALUES)
            self.assertFalse([kind for kind in BUILTIN_KINDS if hasattr(kind, value)], value)
        for name, node in nodes(ast.Attribute):
            self.assertIn(node.attr, methods + values + METHODS, (name, node.lineno))


if __name__ == "__main__":
    unittest.main()
