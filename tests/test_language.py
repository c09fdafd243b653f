"""The package keeps to the small part of Python that it is written in.

Looked at here is what can be seen file by file: files and signs, imports, the top of a module,
statements, expressions, names, methods and sizes. The number of the rule stands with each test.
Where the package does without something that the rules would allow in some places (sets, errors,
annotations, powers), it's looked at that it does without.
"""

import ast
import builtins
import pathlib
import re
import unittest

PACKAGE = pathlib.Path(__file__).resolve().parent.parent / "roomcodes"
FILES = sorted(PACKAGE.glob("*.py"))

STATEMENTS = (
    ast.FunctionDef, ast.ClassDef, ast.ImportFrom, ast.Assign, ast.AugAssign, ast.If, ast.While, ast.For,
    ast.Return, ast.Break, ast.Continue, ast.Pass, ast.Raise, ast.Try, ast.Expr)
EXPRESSIONS = (
    ast.Constant, ast.Name, ast.List, ast.Tuple, ast.Dict, ast.BinOp, ast.UnaryOp, ast.Compare, ast.BoolOp,
    ast.IfExp, ast.Call, ast.Attribute, ast.Subscript, ast.Slice, ast.ListComp, ast.JoinedStr,
    ast.FormattedValue, ast.Lambda)
BUILT_IN = set(
    "len range enumerate zip min max sum abs sorted reversed int str bool list tuple dict set frozenset isinstance "
    "ord repr any all divmod Exception ValueError TypeError KeyError IndexError LookupError ZeroDivisionError "
    "ArithmeticError OverflowError RuntimeError NotImplementedError AttributeError StopIteration".split())
METHODS = set(
    "append clear copy count endswith extend find get index insert isalnum isalpha isdigit islower isspace isupper "
    "items join keys ljust lower lstrip partition pop remove replace reverse rfind rjust rpartition rsplit rstrip "
    "setdefault split splitlines startswith strip update upper values zfill bit_length".split())
NOT_USED = set(
    "register mro elements open input version_info with_traceback add_note format format_map attrgetter breakpoint "
    "builtins compile copyright credits delattr dir eval exec exit gc getattr globals hasattr help id importlib "
    "license locals methodcaller os quit setattr super type vars sys".split())
WORDS = re.compile(
    r"\b(type|typing|typing_extensions|enum|Enum|IntEnum|StrEnum|Flag|IntFlag|Generic|Protocol|ABC|ABCMeta|"
    r"namedtuple|NamedTuple|TypedDict|TYPE_CHECKING|abstractmethod)\b|dataclass|overload|contextmanager")


# What is walked on the spot, and what may walk it beside a loop.
WALKED = ("zip", "enumerate", "reversed", "range")
WALKERS = ("list", "tuple", "dict", "sorted", "sum", "any", "all", "enumerate", "zip")
CHANGES = ("append", "clear", "extend", "insert", "pop", "remove", "reverse", "setdefault", "update")


def trees():
    for path in FILES:
        yield path.name, ast.parse(path.read_text(encoding="ascii"))


def nodes():
    for name, tree in trees():
        for node in ast.walk(tree):
            yield f"{name}:{getattr(node, 'lineno', '')}", node


def bound_names(node):
    """The names that a piece of code binds: parameters, targets, functions and classes."""
    for inner in ast.walk(node):
        if isinstance(inner, ast.Name) and isinstance(inner.ctx, ast.Store):
            yield inner.id
        elif isinstance(inner, ast.arg):
            yield inner.arg
        elif isinstance(inner, (ast.FunctionDef, ast.ClassDef)):
            yield inner.name


def names_read(node):
    return [inner.id for inner in ast.walk(node) if isinstance(inner, ast.Name) and isinstance(inner.ctx, ast.Load)]


def is_plain(value, above):
    """Whether a value may stand at a module's top."""
    if isinstance(value, (ast.List, ast.Tuple)):
        return all(is_plain(inner, above) for inner in value.elts)
    if isinstance(value, ast.Dict):
        return all(is_plain(inner, above) for inner in value.keys + value.values)
    if isinstance(value, ast.UnaryOp):
        return isinstance(value.op, ast.USub) and is_plain(value.operand, above)
    if isinstance(value, ast.Name):
        return value.id in above
    return isinstance(value, ast.Constant) and isinstance(value.value, (int, str, bool, type(None)))


class Files(unittest.TestCase):
    def test_only_plain_files_l1_l14(self):
        names = [path.name for path in PACKAGE.iterdir() if path.name != "__pycache__"]
        self.assertIn("__init__.py", names)
        for name in names:
            self.assertRegex(name, r"^([a-z][a-z0-9_]*|__init__|__main__)\.py$")

    def test_signs_and_sizes_l10_l14(self):
        for path in FILES:
            text = path.read_bytes()
            self.assertEqual([sign for sign in text if sign != 10 and not 32 <= sign <= 126], [], path.name)
            lines = text.decode("ascii").splitlines()
            self.assertLessEqual(len(lines), 400, path.name)
            self.assertEqual([line for line in lines if len(line) > 120], [], path.name)

    def test_short_functions_l10(self):
        for where, node in nodes():
            if isinstance(node, ast.FunctionDef):
                self.assertLessEqual(node.end_lineno - node.lineno + 1, 40, where)

    def test_words_that_stand_nowhere_l17(self):
        for path in FILES:
            self.assertIsNone(WORDS.search(path.read_text(encoding="ascii")), path.name)


class Imports(unittest.TestCase):
    def test_own_files_by_full_names_at_the_top_l2_l16(self):
        for name, tree in trees():
            for node in ast.walk(tree):
                if isinstance(node, ast.ImportFrom):
                    self.assertIn(node, tree.body, name)
                    self.assertEqual(node.level, 0, name)
                    self.assertTrue((PACKAGE / (node.module.partition(".")[2] + ".py")).is_file(), node.module)
                    self.assertEqual([one.name for one in node.names if one.name == "*" or one.asname], [], name)

    def test_from_the_file_that_defines_the_name_l16(self):
        defined = {}
        for name, tree in trees():
            defined["roomcodes." + name[:-3]] = [
                bound for part in tree.body if not isinstance(part, ast.ImportFrom) for bound in bound_names(part)]
        for where, node in nodes():
            if isinstance(node, ast.ImportFrom):
                for one in node.names:
                    self.assertIn(one.name, defined[node.module], where)

    def test_no_two_files_draw_from_one_another_l16(self):
        drawn = {}
        for name, tree in trees():
            drawn["roomcodes." + name[:-3]] = {
                node.module for node in tree.body if isinstance(node, ast.ImportFrom)}
        while drawn:
            free = [name for name in drawn if not drawn[name] & set(drawn)]
            self.assertNotEqual(free, [], f"a ring among {sorted(drawn)}")
            for name in free:
                del drawn[name]


class Code(unittest.TestCase):
    def test_the_top_of_a_module_l3_l15(self):
        for name, tree in trees():
            above, bound = [], []
            for place, part in enumerate(tree.body):
                if isinstance(part, ast.Assign):
                    self.assertTrue(is_plain(part.value, above), f"{name}:{part.lineno}")
                    inner = list(ast.walk(part.value))[1:]
                    self.assertFalse([one for one in inner if isinstance(one, (ast.List, ast.Dict))], name)
                    bound.append(part.targets[0].id)
                elif isinstance(part, (ast.FunctionDef, ast.ClassDef)):
                    bound.append(part.name)
                    above.extend([part.name] if isinstance(part, ast.FunctionDef) else [])
                elif isinstance(part, ast.Expr):
                    self.assertEqual(place, 0, f"{name}:{part.lineno}")
                else:
                    self.assertIsInstance(part, ast.ImportFrom, f"{name}:{part.lineno}")
                    bound.extend(one.name for one in part.names)
            self.assertEqual(len(bound), len(set(bound)), name)

    def test_statements_and_expressions_l6_l7(self):
        for where, node in nodes():
            if isinstance(node, ast.stmt):
                self.assertIsInstance(node, STATEMENTS, where)
            if isinstance(node, ast.expr):
                self.assertIsInstance(node, EXPRESSIONS, where)
            if isinstance(node, ast.Assign):
                self.assertEqual(len(node.targets), 1, where)
            if isinstance(node, (ast.For, ast.While)):
                self.assertEqual(node.orelse, [], where)
            if isinstance(node, ast.Try):
                self.assertEqual(node.finalbody, [], where)
            if isinstance(node, ast.Constant):
                self.assertNotIsInstance(node.value, (float, bytes, complex), where)
            self.assertNotIsInstance(node, (ast.Div, ast.MatMult), where)
            if isinstance(node, ast.ListComp):
                self.assertEqual(len(node.generators), 1, where)
                self.assertLessEqual(len(node.generators[0].ifs), 1, where)

    def test_functions_and_classes_l4_l5(self):
        for where, node in nodes():
            if isinstance(node, (ast.FunctionDef, ast.ClassDef)):
                self.assertEqual(node.decorator_list, [], where)
            if isinstance(node, ast.arguments):
                self.assertEqual((node.vararg, node.kwarg, node.kwonlyargs, node.posonlyargs),
                                 (None, None, [], []), where)
            if isinstance(node, ast.ClassDef):
                self.assertLessEqual(len(node.bases), 1, where)
                self.assertEqual([part for part in node.body if isinstance(part, ast.Assign)], [], where)

    def test_is_stands_beside_none_true_false_l20(self):
        for where, node in nodes():
            if isinstance(node, ast.Compare) and isinstance(node.ops[0], (ast.Is, ast.IsNot)):
                self.assertIsInstance(node.comparators[0], ast.Constant, where)


    def test_done_without_l4_l11_l13_l19_l21_l24_l27(self):
        for where, node in nodes():
            self.assertNotIsInstance(node, (ast.Set, ast.AnnAssign, ast.Try, ast.Raise, ast.Pow, ast.LShift), where)
            if isinstance(node, ast.Name):
                self.assertNotIn(node.id, ("set", "frozenset", "chr"), where)
            if isinstance(node, ast.FunctionDef):
                self.assertIsNone(node.returns, where)
            if isinstance(node, ast.arg):
                self.assertIsNone(node.annotation, where)
            if isinstance(node, ast.Constant) and isinstance(node.value, str):
                self.assertNotIn("%", node.value, where)

    def test_no_function_calls_itself_l11(self):
        for name, tree in trees():
            for part in tree.body:
                if isinstance(part, ast.FunctionDef):
                    self.assertNotIn(part.name, names_read(part), f"{name}: {part.name}")

    def test_classes_l18_l28(self):
        found = [node for where, node in nodes()]
        classes = {node.name for node in found if isinstance(node, ast.ClassDef)}
        called = [node.func for node in found if isinstance(node, ast.Call)]
        for node in found:
            if isinstance(node, ast.Name) and node.id in classes:
                self.assertIn(node, called, node.id)
            if isinstance(node, ast.ClassDef):
                self.assertEqual([part.name for part in node.body], ["__init__"], node.name)
                self.assertFalse([one for one in ast.walk(node) if isinstance(one, ast.Return)], node.name)

    def test_lists_and_dicts_of_a_files_top_are_only_read_l15(self):
        for name, tree in trees():
            kept = {part.targets[0].id for part in tree.body
                    if isinstance(part, ast.Assign) and isinstance(part.value, (ast.List, ast.Dict))}
            fine = set()
            for node in ast.walk(tree):
                if isinstance(node, ast.Subscript) and isinstance(node.ctx, ast.Load):
                    fine.add(node.value)
                elif isinstance(node, ast.Compare):
                    fine.update(node.comparators)
                elif isinstance(node, ast.Attribute) and node.attr == "get":
                    fine.add(node.value)
            for node in ast.walk(tree):
                if isinstance(node, ast.Name) and node.id in kept and isinstance(node.ctx, ast.Load):
                    self.assertIn(node, fine, f"{name}:{node.lineno}")

    def test_keywords_l22(self):
        allowed = {"sorted": {"key", "reverse"}, "min": {"key", "default"}, "max": {"key", "default"},
                   "sum": {"start"}, "enumerate": {"start"}, "zip": {"strict"}}
        for where, node in nodes():
            if isinstance(node, ast.Call) and node.keywords:
                self.assertIsInstance(node.func, ast.Name, where)
                given = {one.arg for one in node.keywords}
                self.assertLessEqual(given, allowed.get(node.func.id, set()), where)

    def test_called_and_walked_on_the_spot_l22_l23_l25(self):
        found = [node for where, node in nodes()]
        called, walked = set(), set()
        for node in found:
            if isinstance(node, ast.Call):
                called.add(node.func)
                if isinstance(node.func, ast.Name) and node.func.id in WALKERS:
                    walked.update(node.args)
            elif isinstance(node, (ast.For, ast.comprehension)):
                walked.add(node.iter)
        for node in found:
            if isinstance(node, ast.Name) and hasattr(builtins, node.id):
                self.assertIn(node, called, f"{node.id} in row {node.lineno} is not called")
            if isinstance(node, ast.Attribute) and node.attr in METHODS:
                self.assertIn(node, called, f"{node.attr} in row {node.lineno} is not called")
            if isinstance(node, ast.Call) and isinstance(node.func, ast.Name) and node.func.id in WALKED:
                self.assertIn(node, walked, f"{node.func.id} in row {node.lineno} is kept")

    def test_what_a_loop_walks_is_not_changed_in_it_l23(self):
        for where, node in nodes():
            if isinstance(node, ast.For):
                walked = {ast.dump(one) for one in ast.walk(node.iter) if isinstance(one, (ast.Name, ast.Attribute))}
                for inner in node.body:
                    for one in ast.walk(inner):
                        if isinstance(one, ast.Attribute) and one.attr in CHANGES:
                            self.assertNotIn(ast.dump(one.value), walked, where)
                        if isinstance(one, ast.Subscript) and isinstance(one.ctx, ast.Store):
                            self.assertNotIn(ast.dump(one.value), walked, where)


class Names(unittest.TestCase):
    def test_bound_names_l12_l15_l17(self):
        for name, tree in trees():
            own = {part.name for part in tree.body if isinstance(part, (ast.FunctionDef, ast.ClassDef))}
            own.update(one.name for part in tree.body if isinstance(part, ast.ImportFrom) for one in part.names)
            for bound in bound_names(tree):
                if bound != "__init__":
                    self.assertRegex(bound, r"^[A-Za-z][A-Za-z0-9_]*$", name)
                    self.assertFalse(hasattr(builtins, bound), f"{name}: {bound}")
                    self.assertNotIn(bound, NOT_USED, name)
            for part in tree.body:
                if isinstance(part, (ast.FunctionDef, ast.ClassDef)):
                    inside = [bound for bound in bound_names(part) if bound != part.name]
                    self.assertEqual(set(inside) & own, set(), f"{name}: {part.name}")

    def test_built_in_names_l8(self):
        for where, node in nodes():
            if isinstance(node, ast.Name) and hasattr(builtins, node.id):
                self.assertIn(node.id, BUILT_IN, where)

    def test_attributes_l17_l25_l26(self):
        pythons_own = set()
        for value in ("", 0, [], {}, set(), b"", ()):
            pythons_own.update(dir(value))
        for where, node in nodes():
            if isinstance(node, ast.Attribute):
                self.assertNotIn(node.attr, NOT_USED, where)
                if node.attr in pythons_own:
                    self.assertIn(node.attr, METHODS, where)


if __name__ == "__main__":
    unittest.main()
