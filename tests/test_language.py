"""The package keeps to the plain subset of Python: what of ../shared/LANGUAGE.md can be seen in its syntax."""

import ast
import builtins
import pathlib
import re
import unittest

PACKAGE = pathlib.Path(__file__).resolve().parent.parent / "letterbench"
FILES = sorted(PACKAGE.rglob("*.py"))

BUILTINS = set(
    "len range enumerate zip min max sum abs sorted reversed int str bool list tuple dict set frozenset isinstance"
    " ord repr any all divmod pow Exception ValueError TypeError KeyError IndexError LookupError ZeroDivisionError"
    " ArithmeticError OverflowError RuntimeError NotImplementedError AttributeError StopIteration NotImplemented"
    .split()
)
METHODS = set(
    "append clear copy count endswith extend find get index insert isalnum isalpha isdigit islower isspace isupper"
    " items join keys ljust lower lstrip partition pop remove replace reverse rfind rjust rpartition rsplit rstrip"
    " setdefault split splitlines startswith strip update upper values zfill bit_length sort add discard".split()
)
DUNDERS = {"__init__", "__eq__", "__len__", "__repr__", "__str__"}
BARRED_NAMES = set(
    "register mro elements open input law version_info with_traceback add_note attrgetter breakpoint builtins compile"
    " copyright credits delattr dir eval exec exit gc globals help id importlib license locals methodcaller os quit"
    " vars sys type super getattr hasattr setattr iter next chr bytes map filter".split()
)
BARRED_WORDS = set(
    "typing typing_extensions enum Enum IntEnum StrEnum Flag IntFlag Generic Protocol ABC ABCMeta namedtuple"
    " NamedTuple TypedDict TYPE_CHECKING abstractmethod type".split()
)
NODES = (
    ast.Module, ast.Expr, ast.Constant, ast.ImportFrom, ast.alias, ast.FunctionDef, ast.arguments, ast.arg, ast.Return,
    ast.ClassDef, ast.Assign, ast.AugAssign, ast.If, ast.While, ast.For, ast.Break, ast.Continue, ast.Pass, ast.Raise,
    ast.Assert, ast.Delete, ast.Try, ast.ExceptHandler, ast.Call, ast.keyword, ast.Name, ast.Load, ast.Store, ast.Del,
    ast.Attribute, ast.Subscript, ast.Slice, ast.Tuple, ast.List, ast.Dict, ast.Set, ast.ListComp, ast.DictComp,
    ast.SetComp, ast.comprehension, ast.BoolOp, ast.And, ast.Or, ast.UnaryOp, ast.Not, ast.USub, ast.Compare, ast.Eq,
    ast.NotEq, ast.Lt, ast.LtE, ast.Gt, ast.GtE, ast.Is, ast.IsNot, ast.In, ast.NotIn, ast.IfExp, ast.BinOp, ast.Add,
    ast.Sub, ast.Mult, ast.FloorDiv, ast.Mod, ast.LShift, ast.RShift, ast.BitAnd, ast.BitOr, ast.BitXor, ast.Pow,
    ast.JoinedStr, ast.FormattedValue, ast.Starred, ast.Lambda, ast.Nonlocal,
)


def trees():
    return [(path, ast.parse(path.read_text(encoding="utf-8"))) for path in FILES]


def nodes(*kinds):
    """Each such node of the package, with where it stands."""
    for path, tree in trees():
        for node in ast.walk(tree):
            if isinstance(node, kinds):
                yield f"{path.name}:{getattr(node, 'lineno', 0)}", node


def bound_names(node):
    """The names that a node binds."""
    if isinstance(node, ast.Name) and not isinstance(node.ctx, ast.Load):
        return [node.id]
    if isinstance(node, ast.arg):
        return [node.arg]
    if isinstance(node, (ast.FunctionDef, ast.ClassDef)):
        return [node.name]
    if isinstance(node, ast.alias):
        return [node.asname or node.name]
    return []


class Files(unittest.TestCase):
    def test_there_are_files(self):
        self.assertIn(PACKAGE / "__init__.py", FILES)
        self.assertLessEqual(len(FILES), 100)

    def test_nothing_else_is_in_the_package(self):
        for path in PACKAGE.rglob("*"):
            if "__pycache__" not in path.parts:
                self.assertTrue(path.is_dir() or re.fullmatch(r"[a-z0-9_]+\.py", path.name), path)

    def test_characters_and_sizes(self):
        for path in FILES:
            text = path.read_text(encoding="utf-8")
            self.assertRegex(text, r"\A[ -~\n]*\Z", path.name)
            self.assertLessEqual(len(text.splitlines()), 399, path.name)
            for number, line in enumerate(text.splitlines(), start=1):
                self.assertLessEqual(len(line), 120, (path.name, number))

    def test_functions_are_short(self):
        for where, node in nodes(ast.FunctionDef):
            self.assertLessEqual(node.end_lineno - node.lineno + 1, 40, where)


class Imports(unittest.TestCase):
    def test_only_from_the_file_that_defines_the_name(self):
        for where, node in nodes(ast.ImportFrom):
            self.assertEqual(node.level, 0, where)
            self.assertRegex(node.module, r"\Aletterbench\.[a-z_]+\Z", where)
            source = ast.parse((PACKAGE / (node.module.split(".")[1] + ".py")).read_text(encoding="utf-8"))
            defined = {getattr(row, "name", None) for row in source.body}
            defined |= {row.targets[0].id for row in source.body if isinstance(row, ast.Assign)}
            for alias in node.names:
                self.assertIn(alias.name, defined, where)

    def test_no_files_import_each_other(self):
        leads = {path.stem: set() for path in FILES}
        for path, tree in trees():
            leads[path.stem] |= {node.module.split(".")[1] for node in ast.walk(tree) if isinstance(node, ast.ImportFrom)}
        for _ in leads:
            for name in leads:
                for other in list(leads[name]):
                    leads[name] |= leads[other]
        for name in leads:
            self.assertNotIn(name, leads[name])

    def test_no_import_is_idle(self):
        for path, tree in trees():
            read = {node.id for node in ast.walk(tree) if isinstance(node, ast.Name)}
            for node in ast.walk(tree):
                if isinstance(node, ast.alias):
                    self.assertIn(node.asname or node.name, read, path.name)


class ModuleLevel(unittest.TestCase):
    def test_only_what_may_stand_there(self):
        for path, tree in trees():
            for at, row in enumerate(tree.body):
                where = f"{path.name}:{row.lineno}"
                if isinstance(row, ast.Expr):
                    self.assertTrue(at == 0 and isinstance(row.value, ast.Constant), where)
                elif isinstance(row, ast.Assign):
                    self.assertEqual([type(target) for target in row.targets], [ast.Name], where)
                    inner = [node for node in ast.walk(row.value) if isinstance(node, (ast.Call, ast.ListComp))]
                    self.assertEqual(inner, [], where)
                else:
                    self.assertIsInstance(row, (ast.ImportFrom, ast.FunctionDef, ast.ClassDef), where)

    def test_names_are_bound_once(self):
        for path, tree in trees():
            names = [name for row in tree.body for node in ast.walk(row) for name in bound_names(node)
                     if row in tree.body and not isinstance(row, (ast.FunctionDef, ast.ClassDef))]
            names += [row.name for row in tree.body if isinstance(row, (ast.FunctionDef, ast.ClassDef))]
            self.assertEqual(sorted(names), sorted(set(names)), path.name)


    def test_lists_and_dicts_there_are_only_read_in_place(self):
        tables = {}
        for path, tree in trees():
            tables[path.stem] = {row.targets[0].id for row in tree.body if isinstance(row, ast.Assign) and isinstance(row.value, (ast.Dict, ast.List))}
        for path, tree in trees():
            known = set(tables[path.stem])
            for row in tree.body:
                if isinstance(row, ast.ImportFrom):
                    known |= {alias.name for alias in row.names} & tables[row.module.split(".")[1]]
            good = set()
            for node in ast.walk(tree):
                if isinstance(node, ast.Subscript):
                    good.add(node.value)
                elif isinstance(node, ast.Compare) and all(isinstance(sign, (ast.In, ast.NotIn)) for sign in node.ops):
                    good.update(node.comparators)
                elif isinstance(node, ast.Attribute) and node.attr in ("get", "items", "keys", "values"):
                    good.add(node.value)
                elif isinstance(node, (ast.For, ast.comprehension)):
                    good.add(node.iter)
                elif isinstance(node, ast.Call) and isinstance(node.func, ast.Name) and node.func.id in ("len", "sorted", "list", "dict"):
                    good.update(node.args)
            for node in ast.walk(tree):
                if isinstance(node, ast.Name) and node.id in known and isinstance(node.ctx, ast.Load):
                    self.assertIn(node, good, f"{path.name}:{node.lineno}")


class Names(unittest.TestCase):
    def test_no_name_is_a_builtins_or_barred(self):
        for where, node in nodes(ast.Name, ast.arg, ast.FunctionDef, ast.ClassDef, ast.alias):
            for name in bound_names(node):
                if name not in DUNDERS:
                    self.assertRegex(name, r"\A(_|_?[A-Za-z][A-Za-z0-9_]*)\Z", where)
                    self.assertFalse(hasattr(builtins, name) or name in BARRED_NAMES, (where, name))

    def test_no_local_name_hides_a_class_or_an_import(self):
        for path, tree in trees():
            outer = {name for row in tree.body if isinstance(row, ast.ImportFrom) for name in
                     [alias.asname or alias.name for alias in row.names]}
            outer |= {row.name for row in tree.body if isinstance(row, ast.ClassDef)}
            for row in ast.walk(tree):
                if isinstance(row, ast.FunctionDef):
                    inner = {name for node in ast.walk(row) for name in bound_names(node)}
                    self.assertEqual(inner & outer, set(), (path.name, row.name))

    def test_only_these_builtins_are_read(self):
        for where, node in nodes(ast.Name):
            if isinstance(node.ctx, ast.Load) and hasattr(builtins, node.id):
                self.assertIn(node.id, BUILTINS, where)

    def test_the_idle_name_is_not_read(self):
        for where, node in nodes(ast.Name):
            self.assertFalse(node.id == "_" and isinstance(node.ctx, ast.Load), where)

    def test_methods_that_are_called_are_known(self):
        own = {row.name for _, node in nodes(ast.ClassDef) for row in node.body if isinstance(row, ast.FunctionDef)}
        for where, node in nodes(ast.Call):
            if isinstance(node.func, ast.Attribute):
                self.assertIn(node.func.attr, own | METHODS, where)
            else:
                self.assertIsInstance(node.func, ast.Name, where)


class Statements(unittest.TestCase):
    def test_only_these_statements_and_signs(self):
        for where, node in nodes(ast.AST):
            self.assertIsInstance(node, NODES, where)

    def test_no_decorators_and_no_annotations(self):
        for where, node in nodes(ast.FunctionDef, ast.ClassDef):
            self.assertEqual(node.decorator_list, [], where)
            if isinstance(node, ast.FunctionDef):
                self.assertIsNone(node.returns, where)
            else:
                self.assertEqual(node.keywords, [], where)

    def test_constants(self):
        for where, node in nodes(ast.Constant):
            self.assertIsInstance(node.value, (int, str, bool, type(None)), where)
            if isinstance(node.value, str):
                self.assertNotIn("%", node.value, where)

    def test_is_goes_with_none_and_truths(self):
        for where, node in nodes(ast.Compare):
            for sign, right in zip(node.ops, node.comparators):
                if isinstance(sign, (ast.Is, ast.IsNot)):
                    self.assertIn(getattr(right, "value", "no constant"), (None, True, False), where)

    def test_powers_are_plain(self):
        for where, node in nodes(ast.BinOp):
            if isinstance(node.op, ast.Pow):
                self.assertIsInstance(node.right, ast.Constant, where)

    def test_errors_are_raised_by_name(self):
        for where, node in nodes(ast.Raise):
            if node.exc is not None:
                self.assertIsInstance(node.exc, ast.Call, where)

    def test_barred_words(self):
        for path in FILES:
            for number, line in enumerate(path.read_text(encoding="utf-8").splitlines(), start=1):
                code = line.split("#")[0]
                if '"""' not in code:
                    self.assertFalse(BARRED_WORDS & set(re.findall(r"[A-Za-z_]+", code)), (path.name, number))


if __name__ == "__main__":
    unittest.main()
