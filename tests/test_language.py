"""The rules of the language that can be seen in a file by itself: files, signs, size, statements, names, imports."""

import ast
import builtins
import pathlib
import re
import unittest

PACKAGE = pathlib.Path(__file__).resolve().parent.parent / "chalkline"
FILES = sorted(PACKAGE.rglob("*.py"))

ERRORS = (
    "Exception ValueError TypeError KeyError IndexError LookupError ZeroDivisionError ArithmeticError OverflowError "
    "RuntimeError NotImplementedError AttributeError StopIteration"
).split()
OWN_NAMES = (
    "len range enumerate zip min max sum abs sorted reversed int str bool list tuple dict set frozenset isinstance ord "
    "repr any all divmod"
).split() + ERRORS
METHODS = (
    "append clear copy count endswith extend find get index insert isalnum isalpha isdigit islower isspace isupper "
    "items join keys ljust lower lstrip partition pop remove replace reverse rfind rjust rpartition rsplit rstrip "
    "setdefault split splitlines startswith strip update upper values zfill bit_length"
).split()
WALKERS = "list tuple dict sorted sum any all enumerate zip".split()
TWO_UNDERSCORES = ["__init__", "__eq__", "__repr__", "__str__", "__len__"]
BANNED_NAMES = (
    "register mro elements open input version_info with_traceback add_note attrgetter breakpoint builtins compile "
    "copyright credits delattr dir eval exec exit gc getattr globals hasattr help id importlib license locals "
    "methodcaller os quit setattr super vars format format_map chr sys"
).split()
BANNED_WORDS = (
    "type typing typing_extensions enum Enum IntEnum StrEnum Flag IntFlag Generic Protocol ABC ABCMeta namedtuple "
    "NamedTuple TypedDict TYPE_CHECKING abstractmethod"
).split()
BANNED_PARTS = ["dataclass", "overload", "contextmanager"]
NODES = (
    "Module Expr Constant ImportFrom alias FunctionDef arguments arg ClassDef Return Assign AugAssign AnnAssign If "
    "While For Break Continue Pass Raise Try ExceptHandler Call Attribute Subscript Slice Name Load Store List Tuple "
    "Dict Set ListComp comprehension Lambda IfExp BinOp UnaryOp BoolOp Compare JoinedStr FormattedValue keyword "
    "Add Sub Mult FloorDiv Mod Pow BitAnd BitOr BitXor LShift RShift Invert USub UAdd Not And Or "
    "Eq NotEq Lt LtE Gt GtE Is IsNot In NotIn"
).split()


def text_faults(path):
    """What is wrong with a file's signs, words and size."""
    text = path.read_bytes().decode("utf-8")
    rows = text.split("\n")
    if len(rows) > 401:
        yield "L10: more than 400 rows"
    for number, row in enumerate(rows, 1):
        if len(row) > 120:
            yield f"L10: row {number} is too long"
        if re.search(r"[^ -~]", row):
            yield f"L14: row {number} has another sign"
    for word in re.findall(r"[A-Za-z0-9_]+", text):
        if word in BANNED_WORDS or any(part in word for part in BANNED_PARTS):
            yield f"L17: the word {word}"


def bound_names(tree):
    """All names that a file gives something to."""
    for node in ast.walk(tree):
        if isinstance(node, (ast.FunctionDef, ast.ClassDef)):
            yield node.name
        elif isinstance(node, ast.arg):
            yield node.arg
        elif isinstance(node, ast.Name) and isinstance(node.ctx, ast.Store):
            yield node.id
        elif isinstance(node, ast.ExceptHandler) and node.name:
            yield node.name
        elif isinstance(node, ast.Attribute) and isinstance(node.ctx, ast.Store):
            yield node.attr


def name_faults(tree):
    """What is wrong with the names that a file gives or reads."""
    for name in bound_names(tree):
        if name not in TWO_UNDERSCORES and not re.fullmatch(r"[A-Za-z][A-Za-z0-9_]*", name):
            yield f"L12: the name {name}"
        if name in vars(builtins) or name in BANNED_NAMES:
            yield f"L15, L17: the name {name} has another meaning"
    for node in ast.walk(tree):
        if isinstance(node, ast.Name) and node.id in vars(builtins) and node.id not in OWN_NAMES:
            yield f"L8: {node.id} at row {node.lineno}"


def clash_faults(tree):
    """Parameters and locals that are called like a class or an import of their file."""
    taken = [node.name for node in tree.body if isinstance(node, ast.ClassDef)]
    for node in tree.body:
        if isinstance(node, ast.ImportFrom):
            taken += [alias.name for alias in node.names]
    for node in ast.walk(tree):
        name = node.arg if isinstance(node, ast.arg) else getattr(node, "id", None)
        if name in taken and not isinstance(getattr(node, "ctx", None), ast.Load):
            yield f"L15: {name} at row {node.lineno}"


def node_faults(tree):
    """What is wrong with the statements and expressions of a file."""
    for node in ast.walk(tree):
        kind = node.__class__.__name__
        where = f"at row {getattr(node, 'lineno', 0)}"
        if kind not in NODES:
            yield f"L6, L7: {kind} {where}"
        if isinstance(node, ast.FunctionDef):
            if node.end_lineno - node.lineno >= 40:
                yield f"L10: {node.name} is too long"
            given = node.args
            if node.decorator_list or given.vararg or given.kwarg or given.kwonlyargs or given.posonlyargs:
                yield f"L4: {node.name}"
        if isinstance(node, ast.ClassDef) and (node.decorator_list or node.keywords or len(node.bases) > 1):
            yield f"L5: {node.name}"
        if isinstance(node, (ast.For, ast.While)) and node.orelse or isinstance(node, ast.Try) and node.finalbody:
            yield f"L6: {kind} {where}"
        if isinstance(node, ast.Assign) and len(node.targets) != 1:
            yield f"L6: several targets {where}"
        if isinstance(node, ast.Constant) and not isinstance(node.value, (int, str, bool, type(None))):
            yield f"L7: {node.value!r} {where}"
        if isinstance(node, ast.ListComp) and (len(node.generators) > 1 or len(node.generators[0].ifs) > 1):
            yield f"L7: a comprehension {where}"
        if isinstance(node, ast.Compare) and any(isinstance(sign, (ast.Is, ast.IsNot)) for sign in node.ops):
            if not all(isinstance(side, ast.Constant) for side in node.comparators):
                yield f"L20: is {where}"
        if isinstance(node, ast.BinOp) and isinstance(node.op, ast.Pow):
            if not isinstance(node.right, ast.Constant) or not 0 <= node.right.value <= 64:
                yield f"L27: a power {where}"
        if isinstance(node, ast.ExceptHandler) and node.type is None:
            yield f"L6: except without a class {where}"


def import_faults(tree):
    """What is wrong with what a file draws from others, and with its top."""
    for node in ast.walk(tree):
        if isinstance(node, ast.ImportFrom):
            names = [alias.name for alias in node.names]
            if node.level or "*" in names or not (node.module or "").startswith("chalkline."):
                yield f"L2: the import at row {node.lineno}"
            elif set(names) - set(defined_in(PACKAGE.parent / (node.module.replace(".", "/") + ".py"))):
                yield f"L16: row {node.lineno} draws a name from another file than its own"
    top = []
    for node in tree.body:
        if isinstance(node, (ast.FunctionDef, ast.ClassDef)):
            top.append(node.name)
        elif isinstance(node, ast.Assign):
            top.append(node.targets[0].id)
        elif not isinstance(node, (ast.ImportFrom, ast.Expr)):
            yield f"L3: row {node.lineno}"
    if len(set(top)) != len(top):
        yield "L15: a name is bound twice at the top"


def defined_in(path):
    """The names that a file defines itself at its top."""
    tree = ast.parse(path.read_text())
    defined = [node.name for node in tree.body if isinstance(node, (ast.FunctionDef, ast.ClassDef))]
    return defined + [node.targets[0].id for node in tree.body if isinstance(node, ast.Assign)]


def method_faults(path, own_methods):
    """Methods that are called and are neither the program's own nor among those of L25."""
    for node in ast.walk(ast.parse(path.read_text())):
        if isinstance(node, ast.Call) and isinstance(node.func, ast.Attribute):
            if node.func.attr not in METHODS + own_methods + TWO_UNDERSCORES:
                yield f"L25: {node.func.attr} at row {node.lineno}"


def walk_faults(tree):
    """What is wrong with what is to be walked on the spot, with sets, and with signs in texts."""
    above = {inner: node for node in ast.walk(tree) for inner in ast.iter_child_nodes(node)}
    for node in ast.walk(tree):
        if isinstance(node, ast.Constant) and isinstance(node.value, str) and re.search(r"%|[^ -~\n\t]", node.value):
            yield f"L27: the text at row {node.lineno}"
        if not isinstance(node, ast.Call):
            continue
        called = node.func.id if isinstance(node.func, ast.Name) else getattr(node.func, "attr", "")
        around = above[node]
        caller = around.func.id if isinstance(around, ast.Call) and isinstance(around.func, ast.Name) else ""
        if called in ("zip", "enumerate", "reversed", "range", "items", "keys", "values"):
            looped = isinstance(around, (ast.For, ast.comprehension)) and around.iter is node
            first = caller in WALKERS and around.args[0] is node
            if not looped and not first and not (caller in ("min", "max") and around.args == [node]):
                yield f"L23: {called} at row {node.lineno}"
        if called in ("set", "frozenset") and not isinstance(around, (ast.Compare, ast.BinOp)):
            if caller not in ("len", "sorted"):
                yield f"L24: a set at row {node.lineno}"


def kept_faults(tree):
    """Lists and dicts of a file's top that hold such, or are handed on or given back otherwise than as a copy."""
    tops = [node for node in tree.body if isinstance(node, ast.Assign) and isinstance(node.value, (ast.List, ast.Dict))]
    names = [node.targets[0].id for node in tops]
    for node in tops:
        if any(isinstance(inner, (ast.List, ast.Dict)) for inner in ast.walk(node.value) if inner is not node.value):
            yield f"L15: {node.targets[0].id} holds a list or dict"
    above = {inner: node for node in ast.walk(tree) for inner in ast.iter_child_nodes(node)}
    for node in ast.walk(tree):
        if not isinstance(node, ast.Name) or node.id not in names or not isinstance(node.ctx, ast.Load):
            continue
        around = above[node]
        indexed = isinstance(around, ast.Subscript) and around.value is node and isinstance(around.ctx, ast.Load)
        looped = isinstance(around, (ast.For, ast.comprehension)) and around.iter is node
        copied = isinstance(around, ast.Call) and getattr(around.func, "id", "") in WALKERS + ["len", "min", "max"]
        got = isinstance(around, ast.Attribute) and around.attr in ("get", "items", "keys", "values", "copy", "index", "count")
        if not (indexed or looped or copied or got or isinstance(around, ast.Compare)):
            yield f"L15: {node.id} at row {node.lineno}"


def methods_of_the_program():
    methods = []
    for path in FILES:
        for node in ast.walk(ast.parse(path.read_text())):
            if isinstance(node, ast.ClassDef):
                methods += [inner.name for inner in node.body if isinstance(inner, ast.FunctionDef)]
    return methods


def values_of_the_program():
    values = []
    for path in FILES:
        for node in ast.walk(ast.parse(path.read_text())):
            if isinstance(node, ast.Attribute) and isinstance(node.ctx, ast.Store):
                values.append(node.attr)
    return values


class TheLanguage(unittest.TestCase):
    def test_the_folder_holds_the_package_alone(self):
        held = [path for path in PACKAGE.rglob("*") if "__pycache__" not in path.parts]
        self.assertTrue(held)
        for path in held:
            self.assertRegex(path.name, r"\A[a-z0-9_]+\.py\Z")
            self.assertNotRegex(path.name, r"\A(test.*|site|conftest)\.py\Z")

    def test_each_file(self):
        for path in FILES:
            tree = ast.parse(path.read_text())
            with self.subTest(path.name):
                faults = list(text_faults(path)) + list(name_faults(tree)) + list(node_faults(tree))
                faults += list(import_faults(tree)) + list(method_faults(path, methods_of_the_program()))
                faults += list(walk_faults(tree)) + list(clash_faults(tree)) + list(kept_faults(tree))
                self.assertEqual(faults, [])

    def test_no_name_is_a_method_and_a_value(self):
        self.assertEqual(set(methods_of_the_program()) & set(values_of_the_program()), set())

    def test_the_faults_are_found(self):
        for text in [
            "a = zip(b)", "a = [range(3)]", "f(enumerate(a))", "a = d.items()", "a = list(b, range(3))", "a = set(b)",
            "f(set(b))", "a = 'b%'", "a = 'b\\x00'",
        ]:
            with self.subTest(text):
                self.assertEqual(len(list(walk_faults(ast.parse(text)))), 1)
        for text in ["a = 2 ** b", "a = 2 ** 65"]:
            self.assertEqual(len(list(node_faults(ast.parse(text)))), 1)
        for text in ["def f(led):\n    pass", "def f(a):\n    led = a", "def f(a):\n    return [led for led in a]"]:
            self.assertEqual(len(list(clash_faults(ast.parse("from chalkline.changes import led\n" + text)))), 1)
        for text in ["f(T)", "T.append(1)", "return T", "T[0] = 1", "a = T", "a = T + [1]", "a = [T]", "T.pop()"]:
            with self.subTest(text):
                self.assertEqual(len(list(kept_faults(ast.parse("T = [1, 2]\ndef g():\n    " + text)))), 1)
        for text in ["f(list(T))", "return T[0]", "a = 1 in T", "a = [b for b in T]", "a = len(T)"]:
            self.assertEqual(list(kept_faults(ast.parse("T = [1, 2]\ndef g():\n    " + text))), [])
        self.assertEqual(len(list(kept_faults(ast.parse("T = [[1], 2]")))), 1)
        for text in ["for a in zip(b):\n    pass", "a = [b for b in range(3)]", "a = len(set(b))", "a = dict(zip(b, c))"]:
            self.assertEqual(list(walk_faults(ast.parse(text))), [])

    def test_no_two_files_draw_from_one_another(self):
        draws = {}
        for path in FILES:
            rows = [node for node in ast.walk(ast.parse(path.read_text())) if isinstance(node, ast.ImportFrom)]
            draws["chalkline." + path.stem] = {node.module for node in rows}
        while draws:
            free = [name for name, others in draws.items() if not others & set(draws)]
            self.assertTrue(free, draws)
            for name in free:
                del draws[name]


if __name__ == "__main__":
    unittest.main()
