"""The form of the code: the rules of LANGUAGE.md that can be looked up in the files themselves."""

import ast
import builtins
import os
import unittest

from tests.common import PACKAGE
from tests.test_interface import INTERFACE
from tests.test_interface import METHODS as OFFERED

BUILTINS = set(
    "len range enumerate zip min max sum abs sorted reversed int str bool bytes list tuple dict set frozenset"
    " isinstance ord repr any all divmod pow ValueError type super".split())
METHODS = set(
    "append clear copy count endswith extend find get index insert isalnum isalpha isdigit islower isspace isupper"
    " items join keys ljust lower lstrip partition pop remove replace reverse rfind rjust rpartition rsplit rstrip"
    " setdefault split splitlines startswith strip update upper values zfill bit_length isascii".split())
BUILTIN_ATTRIBUTES = {
    name for kind in (str, int, list, dict, set, bytes, tuple) for name in dir(kind) if not name.startswith("__")}
BARRED = set(
    "register mro elements open input law version_info with_traceback add_note attrgetter breakpoint builtins compile"
    " copyright credits delattr dir eval exec exit gc getattr globals hasattr help id importlib license locals"
    " methodcaller os quit setattr vars sys __name__ args".split())
WORDS = set(
    "typing typing_extensions enum Enum IntEnum StrEnum Flag IntFlag Generic Protocol ABC ABCMeta namedtuple"
    " NamedTuple TypedDict TYPE_CHECKING abstractmethod dataclass overload contextmanager".split())
EAGER = ("any", "all", "min", "max", "sum", "sorted")
STATEMENTS = (
    ast.Assign, ast.AugAssign, ast.If, ast.While, ast.For, ast.Return, ast.Break, ast.Continue, ast.Pass, ast.Raise,
    ast.Assert, ast.Delete, ast.Expr, ast.Try, ast.FunctionDef, ast.ClassDef, ast.ImportFrom, ast.Nonlocal, ast.With)
DOUBLE = {"__init__", "__eq__", "__repr__", "__str__", "__len__", "__enter__", "__exit__", "__contains__"}


def files():
    found = {}
    for name in sorted(os.listdir(PACKAGE)):
        if name != "__pycache__":
            with open(os.path.join(PACKAGE, name), encoding="utf-8") as file:
                found[name] = file.read()
    return found


def own_names(tree):
    return [node.name for node in tree.body if isinstance(node, (ast.FunctionDef, ast.ClassDef))]


def module_names(tree):
    found = own_names(tree)
    for node in tree.body:
        if isinstance(node, ast.Assign):
            found += [target.id for target in node.targets]
    return found


def local_names(function):
    found = {arg.arg for arg in ast.walk(function.args) if isinstance(arg, ast.arg)}
    for node in ast.walk(function):
        if isinstance(node, ast.Name) and isinstance(node.ctx, ast.Store):
            found.add(node.id)
        if isinstance(node, ast.FunctionDef) and node is not function:
            found.add(node.name)
    return found


def is_plain(node, functions):
    if isinstance(node, ast.Constant):
        return not isinstance(node.value, float)
    if isinstance(node, (ast.Tuple, ast.List)):
        return all(is_plain(part, functions) for part in node.elts)
    if isinstance(node, ast.Dict):
        return all(is_plain(part, functions) for part in node.keys + node.values)
    if isinstance(node, ast.UnaryOp):
        return is_plain(node.operand, functions)
    return isinstance(node, ast.Name) and node.id in functions


def asks_for_none(test):
    """Whether a test is made of names and attributes that are asked whether they are None."""
    if isinstance(test, ast.BoolOp):
        return all(asks_for_none(part) for part in test.values)
    if isinstance(test, ast.UnaryOp):
        return isinstance(test.op, ast.Not) and asks_for_none(test.operand)
    if not isinstance(test, ast.Compare) or len(test.ops) > 1 or not isinstance(test.left, (ast.Name, ast.Attribute)):
        return False
    other = test.comparators[0]
    return isinstance(test.ops[0], (ast.Is, ast.IsNot)) and isinstance(other, ast.Constant) and other.value is None


class FormTest(unittest.TestCase):
    def setUp(self):
        self.texts = files()
        self.trees = {name: ast.parse(text) for name, text in self.texts.items()}

    def nodes(self, *kinds):
        for name, tree in self.trees.items():
            for node in ast.walk(tree):
                if isinstance(node, kinds):
                    yield name, node

    def refuse(self, name, node, rule):
        self.fail("{}, line {}: {}".format(name, getattr(node, "lineno", "?"), rule))

    def test_files(self):
        self.assertIn("__init__.py", self.texts)
        self.assertLessEqual(len(self.texts), 100)
        for name, text in self.texts.items():
            self.assertRegex(name, r"^[a-z_][a-z0-9_]*\.py$")
            lines = text.split("\n")
            self.assertLessEqual(len(lines) - 1, 399, name)
            for number, line in enumerate(lines, 1):
                self.assertLessEqual(len(line), 120, (name, number))
                self.assertTrue(all(" " <= sign <= "~" for sign in line), (name, number))

    def test_functions_are_short(self):
        for name, node in self.nodes(ast.FunctionDef):
            if node.end_lineno - node.lineno + 1 > 40:
                self.refuse(name, node, "L10")

    def test_imports(self):
        graph = {}
        for name, tree in self.trees.items():
            graph[name] = []
            for node in ast.walk(tree):
                if isinstance(node, ast.Import):
                    self.refuse(name, node, "L16")
                if isinstance(node, ast.ImportFrom):
                    self.assertIn(node, tree.body)
                    self.assertEqual(node.level, 0)
                    self.assertTrue(node.module.startswith("begunended."), (name, node.module))
                    source = node.module.split(".")[1] + ".py"
                    graph[name].append(source)
                    for alias in node.names:
                        self.assertIsNone(alias.asname)
                        self.assertIn(alias.name, module_names(self.trees[source]), (name, alias.name))
        done = set()

        def visit(name, path):
            self.assertNotIn(name, path)
            if name not in done:
                for other in graph[name]:
                    visit(other, path + [name])
                done.add(name)

        for name in graph:
            visit(name, [])

    def test_imports_are_used(self):
        for name, tree in self.trees.items():
            used = {node.id for node in ast.walk(tree) if isinstance(node, ast.Name)}
            for node in tree.body:
                if isinstance(node, ast.ImportFrom):
                    for alias in node.names:
                        self.assertIn(alias.name, used, name)

    def test_functions_are_used(self):
        read = set()
        for _, node in self.nodes(ast.Name, ast.Attribute):
            read.add(node.id if isinstance(node, ast.Name) else node.attr)
        offered = {name for names in INTERFACE.values() for name in names}
        offered |= {name for names in OFFERED.values() for name in names}
        for name, node in self.nodes(ast.FunctionDef):
            if node.name not in read and node.name not in offered and node.name not in DOUBLE:
                self.refuse(name, node, "never called: " + node.name)

    def test_module_level(self):
        for name, tree in self.trees.items():
            bound = []
            for number, node in enumerate(tree.body):
                if isinstance(node, ast.Assign):
                    self.assertEqual(len(node.targets), 1)
                    self.assertTrue(is_plain(node.value, own_names(tree)), (name, node.lineno))
                    bound.append(node.targets[0].id)
                elif isinstance(node, (ast.FunctionDef, ast.ClassDef)):
                    bound.append(node.name)
                elif isinstance(node, ast.ImportFrom):
                    bound += [alias.name for alias in node.names]
                else:
                    self.assertTrue(number == 0 and isinstance(node, ast.Expr), (name, node.lineno))
            self.assertEqual(len(bound), len(set(bound)), name)

    def test_statements_and_expressions(self):
        barred = (
            ast.Lambda, ast.GeneratorExp, ast.Set, ast.SetComp, ast.Div, ast.Mod, ast.Yield, ast.YieldFrom, ast.Await,
            ast.Global, ast.NamedExpr, ast.AnnAssign, ast.Match, ast.Is, ast.IsNot)
        for name, tree in self.trees.items():
            for node in ast.walk(tree):
                if isinstance(node, ast.stmt) and not isinstance(node, STATEMENTS):
                    self.refuse(name, node, "L6")
                if isinstance(node, ast.Compare) and isinstance(node.ops[0], (ast.Is, ast.IsNot)):
                    other = node.comparators[0]
                    is_type = isinstance(other, ast.Call) and other.func.id == "type"
                    if not is_type and not (isinstance(other, ast.Constant) and other.value in (None, True, False)):
                        self.refuse(name, node, "L20")
                elif isinstance(node, barred) and not isinstance(node, (ast.Is, ast.IsNot)):
                    self.refuse(name, node, "a form that this package does without")
                if isinstance(node, ast.Constant) and isinstance(node.value, (float, complex)):
                    self.refuse(name, node, "L7")
                if isinstance(node, ast.Try) and (node.finalbody or not all(h.type for h in node.handlers)):
                    self.refuse(name, node, "L6")

    def test_decorators_and_defaults(self):
        for name, node in self.nodes(ast.FunctionDef):
            for decorator in node.decorator_list:
                self.assertEqual(decorator.id, "property", name)
            self.assertFalse(node.returns)
            if node.name.startswith("__"):
                self.assertIn(node.name, DOUBLE)
            for arg in ast.walk(node.args):
                if isinstance(arg, ast.arg):
                    self.assertIsNone(arg.annotation)

    def test_names(self):
        for name, tree in self.trees.items():
            fixed = set(own_names(tree)) & {n.name for n in tree.body if isinstance(n, ast.ClassDef)}
            for node in tree.body:
                if isinstance(node, ast.ImportFrom):
                    fixed |= {alias.name for alias in node.names}
            for word in module_names(tree):
                self.assertFalse(hasattr(builtins, word) or word in BARRED, (name, word))
            for node in ast.walk(tree):
                if isinstance(node, ast.FunctionDef):
                    for word in local_names(node):
                        self.assertNotIn(word, fixed, (name, node.lineno))
                        self.assertFalse(hasattr(builtins, word) or word in BARRED, (name, node.lineno, word))

    def test_builtins(self):
        for name, tree in self.trees.items():
            for node in ast.walk(tree):
                if isinstance(node, ast.Name) and hasattr(builtins, node.id) and node.id not in BUILTINS:
                    if node.id != "property":
                        self.refuse(name, node, "L8: " + node.id)
                if isinstance(node, ast.Call) and isinstance(node.func, ast.Name) and node.func.id in EAGER:
                    self.assertFalse(any(isinstance(arg, ast.GeneratorExp) for arg in node.args))
                    self.assertFalse(any(isinstance(arg, ast.Starred) for arg in node.args))
                if isinstance(node, ast.Call) and isinstance(node.func, ast.Name) and node.func.id == "set":
                    self.refuse(name, node, "L24: this package does without sets")

    def test_methods_and_attributes(self):
        methods, attributes, properties = {}, {}, set()
        for name, tree in self.trees.items():
            for owner in ast.walk(tree):
                if not isinstance(owner, ast.ClassDef):
                    continue
                own = [node for node in owner.body if isinstance(node, ast.FunctionDef)]
                self.assertEqual(len(own), len({node.name for node in own}), owner.name)
                for node in own:
                    if node.decorator_list:
                        properties.add(node.name)
                    elif not node.name.startswith("__"):
                        methods.setdefault(node.name, set()).add(owner.name)
                for node in ast.walk(owner):
                    if isinstance(node, ast.Attribute) and isinstance(node.ctx, ast.Store):
                        attributes.setdefault(node.attr, set()).add(owner.name)
        # Errors keep a value, a desk tells that of a name: L18 lets it, as no method is read off a class.
        self.assertEqual(set(methods) & set(attributes), {"value"})
        self.assertEqual(properties & (set(methods) | set(attributes)), set())
        self.assertEqual(properties & BUILTIN_ATTRIBUTES, set())
        self.assertEqual(set(attributes) & (BUILTIN_ATTRIBUTES - {"count", "index"}), set())
        self.assertEqual(set(methods) & (BUILTIN_ATTRIBUTES - METHODS - {"add", "discard"}), set())
        known = set(attributes) | properties | set(methods) | METHODS | {"__init__"}
        for name, node in self.nodes(ast.Attribute):
            if node.attr not in known:
                self.refuse(name, node, "L18: " + node.attr)
            if isinstance(node.ctx, ast.Store) and not isinstance(node.value, ast.Name):
                self.refuse(name, node, "L18")

    def test_strings(self):
        for name, node in self.nodes(ast.Constant):
            if isinstance(node.value, str):
                self.assertFalse("%" in node.value and name != "signs.py", (name, node.lineno))
                self.assertFalse(node.value.endswith(("._", ".__")), (name, node.lineno))
        for name, tree in self.trees.items():
            for node in ast.walk(tree):
                if isinstance(node, (ast.Name, ast.Attribute)):
                    word = node.id if isinstance(node, ast.Name) else node.attr
                    self.assertNotIn(word, WORDS | (BARRED - {"args"}), (name, node.lineno))

    def test_classes_are_not_values(self):
        classes = {node.name for _, node in self.nodes(ast.ClassDef)} | {"ValueError"}
        for name, tree in self.trees.items():
            fine = set()
            for node in ast.walk(tree):
                if isinstance(node, ast.Call):
                    fine.add(node.func)
                    if isinstance(node.func, ast.Name) and node.func.id == "isinstance":
                        fine |= set(ast.walk(node.args[1]))
                if isinstance(node, ast.ClassDef):
                    fine |= set(node.bases)
                if isinstance(node, ast.ExceptHandler):
                    fine |= set(ast.walk(node.type))
                if isinstance(node, ast.Attribute) and node.attr == "__init__":
                    fine.add(node.value)
            for node in ast.walk(tree):
                if isinstance(node, ast.Name) and node.id in classes and node not in fine:
                    self.refuse(name, node, "L18")

    def test_stars_of_calls(self):
        for name, node in self.nodes(ast.Call):
            for arg in node.args:
                if isinstance(arg, ast.Starred) and not isinstance(arg.value, (ast.Name, ast.Attribute)):
                    self.refuse(name, node, "L7")
            self.assertFalse([keyword for keyword in node.keywords if keyword.arg is None], name)

    def test_methods_are_not_read_off_classes(self):
        classes = {node.name for _, node in self.nodes(ast.ClassDef)}
        for name, node in self.nodes(ast.Attribute):
            if isinstance(node.value, ast.Name) and node.value.id in classes:
                self.refuse(name, node, "L18")
            if isinstance(node.value, ast.Call) and isinstance(node.value.func, ast.Name):
                if node.value.func.id == "super":
                    self.assertEqual(node.attr, "__init__")

    def test_exits_ask_for_none_alone(self):
        for name, node in self.nodes(ast.FunctionDef):
            if node.name != "__exit__":
                continue
            told = [arg.arg for arg in node.args.args[2:]]
            for part in ast.walk(node):
                if isinstance(part, ast.If) and not asks_for_none(part.test):
                    self.refuse(name, part, "L6 With")
                if isinstance(part, ast.Name) and part.id in told:
                    self.refuse(name, part, "L6 With")
                if isinstance(part, (ast.For, ast.While, ast.IfExp, ast.With, ast.Try, ast.Raise, ast.Subscript)):
                    self.refuse(name, part, "L6 With")

    def test_loops_leave_what_they_go_over(self):
        changing = ("append", "extend", "insert", "pop", "remove", "clear", "update", "setdefault", "reverse")
        for name, loop in self.nodes(ast.For):
            over = loop.iter
            while isinstance(over, ast.Call) and over.args and isinstance(over.func, ast.Name):
                if over.func.id not in ("enumerate", "zip", "reversed"):
                    break
                over = over.args[0]
            if isinstance(over, ast.Call) and isinstance(over.func, ast.Attribute):
                over = over.func.value
            if not isinstance(over, (ast.Name, ast.Attribute)):
                continue
            told = ast.dump(over).replace("Store", "Load")
            for node in [part for statement in loop.body for part in ast.walk(statement)]:
                changed = None
                if isinstance(node, ast.Subscript) and isinstance(node.ctx, (ast.Store, ast.Del)):
                    changed = node.value
                if isinstance(node, ast.Call) and isinstance(node.func, ast.Attribute) and node.func.attr in changing:
                    changed = node.func.value
                if changed is not None and ast.dump(changed).replace("Store", "Load") == told:
                    self.refuse(name, node, "L23")

    def test_zips_are_iterated_at_once(self):
        for name, tree in self.trees.items():
            fine = set()
            for node in ast.walk(tree):
                if isinstance(node, (ast.For, ast.comprehension)):
                    fine.add(node.iter)
                if isinstance(node, ast.Call) and isinstance(node.func, ast.Name):
                    if node.func.id in ("list", "tuple", "dict", "sorted", "enumerate", "zip"):
                        fine |= set(node.args)
            for node in ast.walk(tree):
                if isinstance(node, ast.Call) and node not in fine:
                    word = node.func.id if isinstance(node.func, ast.Name) else node.func.attr
                    if word in ("zip", "enumerate", "reversed", "range", "items", "keys", "values"):
                        self.refuse(name, node, "L23")


if __name__ == "__main__":
    unittest.main()
