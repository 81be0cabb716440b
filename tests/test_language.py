"""Rules of the Python subset that can be seen in the source."""

import ast
import builtins
import os
import re

import usualdays
from tests.helpers import Case

FOLDER = os.path.dirname(usualdays.__file__)
BUILTINS = set("""len range enumerate zip min max sum abs sorted reversed int str bool bytes list tuple dict set
isinstance ord repr any all divmod iter ValueError NotImplemented""".split())
METHODS = set("""append clear copy count endswith extend find get index insert isalnum isalpha isdigit islower isspace
isupper items join keys ljust lower lstrip partition pop remove replace reverse rfind rjust rpartition rsplit rstrip
setdefault split splitlines startswith strip update upper values zfill bit_length""".split())
DUNDERS = set("""__init__ __eq__ __len__ __iter__ __call__ __getitem__ __add__ __mul__ __and__ __or__ __invert__
__enter__ __exit__""".split())
DECORATORS = {"property", "classmethod", "staticmethod"}
NODES = """Module Expr Constant ImportFrom alias FunctionDef ClassDef arguments arg Assign AugAssign If While For Return
Break Continue Pass Raise Try ExceptHandler Call Attribute Subscript Slice Name Load Store Tuple List Dict ListComp
SetComp DictComp comprehension BinOp UnaryOp BoolOp Compare IfExp JoinedStr FormattedValue Starred keyword Yield
Add Sub Mult FloorDiv Mod Pow LShift RShift BitAnd BitOr BitXor Not Invert USub And Or Eq NotEq Lt LtE Gt GtE Is IsNot
In NotIn With withitem""".split()
BANNED = r"\b(type|typing|enum|Generic|Protocol|ABC|namedtuple)\b"
BARRED = set("""register mro elements open input law version_info with_traceback add_note""".split())


def files():
    for name in sorted(os.listdir(FOLDER)):
        if name != "__pycache__":
            with open(os.path.join(FOLDER, name), encoding="utf-8") as source:
                yield name, source.read()


def trees():
    for name, text in files():
        yield name, ast.parse(text)


def walk(kind):
    for name, tree in trees():
        for node in ast.walk(tree):
            if isinstance(node, kind):
                yield f"{name}:{getattr(node, 'lineno', 0)}", node


def bound_in(node):
    """The names that a function binds: its parameters, targets and caught errors."""
    for inner in ast.walk(node):
        if isinstance(inner, ast.arg):
            yield inner.arg
        elif isinstance(inner, ast.Name) and isinstance(inner.ctx, ast.Store):
            yield inner.id


class Language(Case):
    def test_l1_l10_l14_files(self):
        for name, text in files():
            self.assertRegex(name, r"^[a-z_]+\.py$")
            self.assertTrue(all(sign == "\n" or " " <= sign <= "~" for sign in text), name)
            rows = text.split("\n")
            self.assertLessEqual(len(rows), 399, name)
            for row in rows:
                self.assertLessEqual(len(row), 120, (name, row))

    def test_l10_functions_are_short(self):
        for place, node in walk(ast.FunctionDef):
            self.assertLessEqual(node.end_lineno - node.lineno + 1, 40, place)

    def test_l2_l16_imports(self):
        defined = {name: {node.name for node in tree.body if hasattr(node, "name")} | {
            node.targets[0].id for node in tree.body if isinstance(node, ast.Assign)} for name, tree in trees()}
        below = {}
        for name, tree in trees():
            below[name] = set()
            used = {node.id for node in ast.walk(tree) if isinstance(node, ast.Name)}
            for node in tree.body:
                if isinstance(node, ast.ImportFrom):
                    self.assertEqual(node.level, 0)
                    for alias in node.names:
                        self.assertIsNone(alias.asname)
                        self.assertIn(alias.name, used, name)
                    if node.module == "math":
                        self.assertLessEqual({alias.name for alias in node.names}, {"gcd", "lcm"})
                        continue
                    package, module = node.module.split(".")
                    self.assertEqual(package, "usualdays")
                    below[name].add(module + ".py")
                    self.assertLessEqual({alias.name for alias in node.names}, defined[module + ".py"], name)
        while below:
            free = [name for name in below if not below[name] & set(below)]
            self.assertTrue(free, below)
            for name in free:
                del below[name]

    def test_l3_l15_module_level(self):
        for name, tree in trees():
            bound = []
            for node in tree.body:
                self.assertIsInstance(node, (ast.Expr, ast.ImportFrom, ast.FunctionDef, ast.ClassDef, ast.Assign))
                if isinstance(node, ast.Expr):
                    self.assertIsInstance(node.value, ast.Constant)
                elif isinstance(node, ast.ImportFrom):
                    bound += [alias.name for alias in node.names]
                else:
                    bound.append(node.targets[0].id if isinstance(node, ast.Assign) else node.name)
            self.assertEqual(len(bound), len(set(bound)), name)
            for function in [node for node in ast.walk(tree) if isinstance(node, ast.FunctionDef)]:
                for own in bound_in(function):
                    self.assertNotIn(own, bound, (name, function.name))

    def test_l6_l7_only_known_forms(self):
        for place, node in walk(ast.AST):
            self.assertIn(type(node).__name__, NODES, place)

    def test_l8_l15_builtins(self):
        known = set(vars(builtins))
        for name, tree in trees():
            for node in ast.walk(tree):
                if isinstance(node, ast.Name) and isinstance(node.ctx, ast.Load) and node.id in known:
                    self.assertIn(node.id, BUILTINS | DECORATORS, name)
                if isinstance(node, ast.FunctionDef):
                    for own in bound_in(node):
                        self.assertNotIn(own, known, (name, node.name))

    def test_l5_l25_methods(self):
        own = {node.name for _, node in walk(ast.FunctionDef)}
        for place, node in walk(ast.Call):
            if isinstance(node.func, ast.Attribute):
                self.assertIn(node.func.attr, METHODS | own, place)
        for place, node in walk(ast.FunctionDef):
            if node.name.startswith("__"):
                self.assertIn(node.name, DUNDERS, place)
            for decorator in node.decorator_list:
                self.assertIn(ast.unparse(decorator), DECORATORS, place)

    def test_l18_attributes_that_are_read_are_assigned(self):
        assigned = {node.attr for _, node in walk(ast.Attribute) if isinstance(node.ctx, ast.Store)}
        known = assigned | METHODS | {node.name for _, node in walk(ast.FunctionDef)}
        for place, node in walk(ast.Attribute):
            self.assertIn(node.attr, known, place)

    def test_l18_no_name_is_a_method_and_an_attribute_of_one_class(self):
        for place, node in walk(ast.ClassDef):
            methods = [inner.name for inner in node.body if isinstance(inner, ast.FunctionDef)]
            self.assertEqual(len(methods), len(set(methods)), place)
            for inner in ast.walk(node):
                if isinstance(inner, ast.Attribute) and isinstance(inner.ctx, ast.Store):
                    self.assertNotIn(inner.attr, methods, place)

    def test_l19_only_own_errors_are_caught(self):
        own = {node.name for _, node in walk(ast.ClassDef)}
        for place, node in walk(ast.ExceptHandler):
            for word in ast.unparse(node.type).strip("()").split(", "):
                self.assertIn(word, own, place)
        for place, node in walk(ast.Raise):
            self.assertIn(node.exc.func.id, own, place)

    def test_l20_is(self):
        for place, node in walk(ast.Compare):
            for operator, side in zip(node.ops, node.comparators):
                if isinstance(operator, (ast.Is, ast.IsNot)):
                    self.assertIn(ast.unparse(side), ("None", "True", "False"), place)

    def test_l24_sets(self):
        inner = set()
        for _, node in walk(ast.Call):
            if ast.unparse(node.func) in ("sorted", "len") and not node.keywords:
                inner.update(ast.unparse(thing) for thing in node.args)
        for place, node in walk((ast.SetComp, ast.Set)):
            self.assertIn(ast.unparse(node), inner, place)
        for place, node in walk(ast.Call):
            if ast.unparse(node.func) == "set":
                self.assertIn(ast.unparse(node), inner, place)

    def test_l27_numbers_and_strings(self):
        for place, node in walk(ast.BinOp):
            if isinstance(node.op, ast.Pow):
                self.assertIsInstance(node.right, ast.Constant, place)
        for place, node in walk(ast.Constant):
            self.assertNotIsInstance(node.value, (float, complex, bytes), place)
            if isinstance(node.value, str):
                self.assertNotIn("%", node.value, place)

    def test_l17_words(self):
        for name, text in files():
            self.assertEqual(re.findall(BANNED, text), [], name)
            self.assertEqual(re.findall(r"\(type\)|dataclass|overload|contextmanager|metaclass|Meta|_wall", text), [], name)
        for place, node in walk((ast.Name, ast.Attribute, ast.arg, ast.FunctionDef, ast.ClassDef)):
            for field in ("id", "attr", "arg", "name"):
                self.assertNotIn(getattr(node, field, None), BARRED, place)
