"""The package keeps to LANGUAGE.md: what of its rules can be seen in a file's tree and text is asked here."""

import ast
import builtins
import pathlib
import re
import unittest

PACKAGE = pathlib.Path(__file__).resolve().parent.parent / "bandscribe"

STATEMENTS = (ast.Assign, ast.AugAssign, ast.If, ast.While, ast.For, ast.Return, ast.Break, ast.Continue, ast.Pass,
              ast.Raise, ast.Try, ast.Expr, ast.FunctionDef, ast.ClassDef, ast.ImportFrom)
EXPRESSIONS = (ast.Constant, ast.List, ast.Tuple, ast.Dict, ast.Set, ast.BinOp, ast.UnaryOp, ast.BoolOp, ast.Compare,
               ast.IfExp, ast.Call, ast.Attribute, ast.Subscript, ast.Slice, ast.ListComp, ast.JoinedStr,
               ast.FormattedValue, ast.Name, ast.Lambda)
ERROR_NAMES = set("""Exception ValueError TypeError KeyError IndexError LookupError ZeroDivisionError ArithmeticError
    OverflowError RuntimeError NotImplementedError AttributeError StopIteration""".split())
OWN_NAMES = ERROR_NAMES | set("""len range enumerate zip min max sum abs sorted reversed int str bool list tuple dict
    set frozenset isinstance ord repr any all divmod""".split())
METHODS = set("""append clear copy count endswith extend find get index insert isalnum isalpha isdigit islower isspace
    isupper items join keys ljust lower lstrip partition pop remove replace reverse rfind rjust rpartition rsplit rstrip
    setdefault split splitlines startswith strip update upper values zfill bit_length""".split())
SPECIAL = set("__init__ __eq__ __repr__ __str__ __len__".split())
WALKED = set("zip enumerate reversed range".split())
WALKED_METHODS = set("items keys values".split())
WALKERS = set("list tuple dict sorted sum any all enumerate zip min max".split())
KEYWORDS = {"sorted": ("key", "reverse"), "min": ("key", "default"), "max": ("key", "default"), "sum": ("start",),
            "enumerate": ("start",), "zip": ("strict",)}
UNUSED = set("""register mro elements open input version_info with_traceback add_note f_back tb_next co_names format
    format_map""".split())
UNUSED_NAMES = set("""attrgetter breakpoint builtins compile copyright credits delattr dir eval exec exit gc getattr
    globals hasattr help id importlib license locals methodcaller os quit setattr super type vars sys __name__
    chr""".split())
WORDS = set("""type typing typing_extensions enum Enum IntEnum StrEnum Flag IntFlag Generic Protocol ABC ABCMeta
    namedtuple NamedTuple TypedDict TYPE_CHECKING abstractmethod""".split())
NO_VALUES = set("""items keys values pop update append clear extend insert remove reverse setdefault sort args encode
    format""".split())
NO_FILES = set("test tests testing site conftest sitecustomize usercustomize".split()) | set(dir(builtins)) | WORDS


class Checker:
    """Looks at one file; found is a list of texts, each with the number of the rule that is broken."""

    def __init__(self, text):
        self.text = text
        self.tree = ast.parse(text)
        self.found = []
        self.above = {}
        for node in ast.walk(self.tree):
            for child in ast.iter_child_nodes(node):
                self.above[child] = node
        self.imported = [name.name for node in self.nodes(ast.ImportFrom) for name in node.names]
        self.classes = [node.name for node in self.nodes(ast.ClassDef)]

    def nodes(self, *kinds):
        return [node for node in ast.walk(self.tree) if isinstance(node, kinds)]

    def broken(self, rule, node, why):
        self.found.append(f"{rule} line {getattr(node, 'lineno', 0)}: {why}")

    def look(self):
        for part in (self.look_text, self.look_top, self.look_defs, self.look_classes, self.look_statements,
                     self.look_expressions, self.look_names, self.look_attributes, self.look_calls, self.look_errors):
            part()
        return self.found

    def look_text(self):
        lines = self.text.split("\n")
        if len(lines) - 1 > 400:
            self.broken("L10", None, "a long file")
        if any(len(line) > 120 for line in lines):
            self.broken("L10", None, "a long line")
        if any(sign != "\n" and not " " <= sign <= "~" for sign in self.text):
            self.broken("L14", None, "a sign that is not from the blank to the tilde")
        for word in re.findall(r"\w+", self.text):
            if word in WORDS or re.search("dataclass|overload|contextmanager", word):
                self.broken("L17", None, word)

    def look_top(self):
        bound = []
        for number, node in enumerate(self.tree.body):
            if isinstance(node, ast.Expr):
                if number or not isinstance(node.value, ast.Constant) or not isinstance(node.value.value, str):
                    self.broken("L3", node, "something is done at the top")
            elif isinstance(node, ast.Assign):
                bound.extend(target.id for target in node.targets)
                if any(not isinstance(part, (ast.Constant, ast.List, ast.Tuple, ast.Dict, ast.Name, ast.UnaryOp,
                                             ast.USub, ast.Load)) for part in ast.walk(node.value)):
                    self.broken("L3", node, "no plain value")
            elif isinstance(node, (ast.FunctionDef, ast.ClassDef)):
                bound.append(node.name)
            elif isinstance(node, ast.ImportFrom):
                bound.extend(name.name for name in node.names)
            else:
                self.broken("L3", node, "no such thing at the top")
        if len(set(bound)) < len(bound):
            self.broken("L15", None, "a name is bound twice at the top")
        for node in self.nodes(ast.Import):
            self.broken("L2", node, "an import without from")
        for node in self.nodes(ast.ImportFrom):
            if node.level or not node.module.startswith("bandscribe.") or any(n.name == "*" for n in node.names):
                self.broken("L2", node, "an import from elsewhere")
            if self.above[node] is not self.tree or any(name.asname for name in node.names):
                self.broken("L2", node, "an import of another form")

    def look_defs(self):
        for node in self.nodes(ast.FunctionDef, ast.Lambda):
            given = node.args
            if given.vararg or given.kwarg or given.kwonlyargs or given.posonlyargs:
                self.broken("L4", node, "a parameter that is not plain")
            if any(not isinstance(value, ast.Constant) for value in given.defaults):
                self.broken("L4", node, "a default that is not plain")
            if any(arg.annotation for arg in given.args):
                self.broken("L21", node, "an annotation")
        for node in self.nodes(ast.FunctionDef):
            if node.decorator_list or node.returns:
                self.broken("L4", node, "a decorator or an annotation")
            if node.end_lineno - node.lineno + 1 > 40:
                self.broken("L10", node, "a long function")
            if node.name == "__init__" and any(isinstance(part, ast.Return) and part.value for part in ast.walk(node)):
                self.broken("L28", node, "__init__ gives something back")

    def look_classes(self):
        for node in self.nodes(ast.ClassDef):
            bases = [base.id for base in node.bases if isinstance(base, ast.Name)]
            if len(node.bases) > 1 or len(bases) < len(node.bases) or node.keywords or node.decorator_list:
                self.broken("L5", node, "a class that is not plain")
            if any(base not in ERROR_NAMES and base not in self.classes + self.imported for base in bases):
                self.broken("L5", node, "a base from elsewhere")
            if any(base in ("StopIteration", "AttributeError") for base in bases):
                self.broken("L18", node, "a base that is out")
            if self.above[node] is not self.tree:
                self.broken("L15", node, "a class that is not at the top")
            if any(not isinstance(part, (ast.FunctionDef, ast.Pass)) for part in node.body):
                self.broken("L5", node, "a value in the class body")
            methods = [part.name for part in node.body if isinstance(part, ast.FunctionDef)]
            if len(set(methods)) < len(methods):
                self.broken("L18", node, "a method stands twice")

    def look_statements(self):
        for node in self.nodes(ast.stmt):
            if not isinstance(node, STATEMENTS):
                self.broken("L6", node, "no such statement")
            if isinstance(node, (ast.For, ast.While)) and node.orelse:
                self.broken("L6", node, "else behind a loop")
            if isinstance(node, ast.Assign) and len(node.targets) > 1:
                self.broken("L6", node, "several targets")
            if isinstance(node, ast.Expr) and node is not self.tree.body[0] and not isinstance(node.value, ast.Call):
                self.broken("L6", node, "a value by itself that is no call")

    def look_expressions(self):
        for node in self.nodes(ast.expr):
            if not isinstance(node, EXPRESSIONS):
                self.broken("L7", node, "no such expression")
            if isinstance(node, ast.Constant) and not isinstance(node.value, (int, str, type(None))):
                self.broken("L7", node, "no such value")
            if isinstance(node, ast.Constant) and isinstance(node.value, str) and "%" in node.value:
                self.broken("L27", node, "a percent sign in a text")
            if isinstance(node, ast.ListComp) and (len(node.generators) > 1 or len(node.generators[0].ifs) > 1):
                self.broken("L7", node, "a comprehension with more than one for or if")
            if isinstance(node, ast.FormattedValue) and (not isinstance(node.value, ast.Name) or node.format_spec):
                self.broken("L7", node, "an f-string that is not plain")
            if isinstance(node, ast.Set) or isinstance(node, ast.Dict) and None in node.keys:
                self.broken("L24", node, "a set written out, or a star")
            if isinstance(node, ast.BinOp) and isinstance(node.op, ast.Div):
                self.broken("L7", node, "a slash")
            if isinstance(node, ast.BinOp) and isinstance(node.op, ast.Pow):
                if not isinstance(node.right, ast.Constant) or not 0 <= node.right.value <= 64:
                    self.broken("L27", node, "a power that is not written out")
            if isinstance(node, ast.Compare) and any(isinstance(op, (ast.Is, ast.IsNot)) for op in node.ops):
                if not any(isinstance(side, ast.Constant) and side.value in (None, True, False)
                           for side in [node.left] + node.comparators):
                    self.broken("L20", node, "is beside another thing")

    def look_names(self):
        bound = [node.id for node in self.nodes(ast.Name) if isinstance(node.ctx, ast.Store)]
        bound.extend(node.arg for node in self.nodes(ast.arg))
        for name in bound:
            if name in dir(builtins) or name in self.classes + self.imported:
                self.broken("L15", None, f"{name} is given another meaning")
        bound.extend(node.name for node in self.nodes(ast.FunctionDef, ast.ClassDef))
        for name in bound:
            if not re.fullmatch("[A-Za-z][A-Za-z0-9_]*", name) and name not in SPECIAL:
                self.broken("L12", None, name)
        for node in self.nodes(ast.Name):
            if node.id in UNUSED | UNUSED_NAMES:
                self.broken("L17", node, node.id)
            if node.id in dir(builtins) and node.id not in OWN_NAMES:
                self.broken("L8", node, node.id)

    def look_attributes(self):
        for node in self.nodes(ast.Attribute):
            if node.attr in UNUSED or (node.attr.startswith("_") and node.attr not in SPECIAL):
                self.broken("L17", node, node.attr)
            if isinstance(node.ctx, ast.Store) and (not isinstance(node.value, ast.Name) or node.attr in NO_VALUES):
                self.broken("L26", node, node.attr)

    def look_calls(self):
        for node in self.nodes(ast.Call):
            over = self.above[node]
            name = node.func.id if isinstance(node.func, ast.Name) else ""
            method = node.func.attr if isinstance(node.func, ast.Attribute) else ""
            if name in OWN_NAMES or method in METHODS:
                if any(word.arg not in KEYWORDS.get(name, ()) for word in node.keywords):
                    self.broken("L22", node, "a keyword")
            if name in WALKED or method in WALKED_METHODS:
                walked = isinstance(over, (ast.For, ast.comprehension)) and over.iter is node
                within = isinstance(over, ast.Call) and isinstance(over.func, ast.Name) and over.func.id in WALKERS
                if not walked and not within:
                    self.broken("L23", node, "not walked on the spot")
            if name in ("set", "frozenset"):
                within = isinstance(over, ast.Call) and isinstance(over.func, ast.Name)
                if not (within and over.func.id in ("len", "sorted")) and not isinstance(over, (ast.Compare, ast.BinOp)):
                    self.broken("L24", node, "a set that is kept or walked")

    def look_errors(self):
        for node in self.nodes(ast.ExceptHandler):
            taken = [part.id for part in ast.walk(node.type) if isinstance(part, ast.Name)] if node.type else []
            if not taken or any(name in ("Exception", "TypeError") for name in taken):
                self.broken("L19", node, "an error that is not taken by its name")
        for node in self.nodes(ast.Try):
            if node.finalbody:
                self.broken("L6", node, "finally")
        for node in self.nodes(ast.Raise):
            if not isinstance(node.exc, ast.Call):
                self.broken("L19", node, "an error that is not made on the spot")


def files():
    return sorted(path for path in PACKAGE.rglob("*") if "__pycache__" not in path.parts)


def checkers():
    return {path.stem: Checker(path.read_text(encoding="utf-8")) for path in files()}


class Package(unittest.TestCase):
    def test_files(self):
        self.assertIn(PACKAGE / "__init__.py", files())
        for path in files():
            self.assertEqual((path.parent, path.suffix), (PACKAGE, ".py"))
            if path.stem not in ("__init__", "__main__"):
                self.assertRegex(path.stem, "^[a-z][a-z0-9_]*$")
                self.assertNotIn(path.stem, NO_FILES)
                self.assertFalse(path.stem.startswith("test_"))

    def test_each_file(self):
        for stem, checker in checkers().items():
            self.assertEqual(checker.look(), [], stem)

    def test_names_come_from_the_file_that_defines_them(self):
        looked = checkers()
        for stem, checker in looked.items():
            for node in checker.nodes(ast.ImportFrom):
                other = looked[node.module.removeprefix("bandscribe.")].tree
                defined = [part.name for part in other.body if isinstance(part, (ast.FunctionDef, ast.ClassDef))]
                defined.extend(part.targets[0].id for part in other.body if isinstance(part, ast.Assign))
                for name in node.names:
                    self.assertIn(name.name, defined, stem)

    def test_no_two_files_draw_from_one_another(self):
        drawn = {}
        for stem, checker in checkers().items():
            drawn[stem] = [node.module.removeprefix("bandscribe.") for node in checker.nodes(ast.ImportFrom)]
        while drawn:
            free = [stem for stem in drawn if not any(other in drawn for other in drawn[stem])]
            self.assertTrue(free, drawn)
            drawn = {stem: drawn[stem] for stem in drawn if stem not in free}

    def test_methods_and_values(self):
        methods, values, called = set(), set(), set()
        for checker in checkers().values():
            for node in checker.nodes(ast.ClassDef):
                methods.update(part.name for part in node.body if isinstance(part, ast.FunctionDef))
            for node in checker.nodes(ast.Attribute):
                if isinstance(node.ctx, ast.Store):
                    values.add(node.attr)
            called.update(node.func.attr for node in checker.nodes(ast.Call) if isinstance(node.func, ast.Attribute))
        self.assertEqual(methods & values, set())
        self.assertEqual(called - methods - METHODS - SPECIAL, set())


class TheCheckerItself(unittest.TestCase):
    def test_what_is_sent_back(self):
        for rule, text in (
                ("L2", "import os\n"), ("L2", "from os import path\n"), ("L2", "from .errors import NoRow\n"),
                ("L3", "print(1)\n"), ("L3", "x = len([])\n"), ("L4", "def f(*a):\n    return a\n"),
                ("L4", "def f(a=[]):\n    return a\n"), ("L5", "class A:\n    x = 1\n"),
                ("L5", "class A(int):\n    pass\n"), ("L6", "def f():\n    assert 1\n"),
                ("L6", "def f(x):\n    del x\n"), ("L6", "def f(x):\n    a = b = x\n"),
                ("L6", "def f(x):\n    x\n"), ("L7", "x = 1.5\n"), ("L7", "def f(x):\n    return x / 2\n"),
                ("L7", "def f(x):\n    return list(y for y in x)\n"), ("L7", "def f(x):\n    return {y: 1 for y in x}\n"),
                ("L8", "def f(x):\n    return map(f, x)\n"), ("L10", "x = 1" + " " * 120 + "\n"),
                ("L10", "def f():\n" + "    f()\n" * 40), ("L12", "def _f():\n    pass\n"),
                ("L12", "def f(x):\n    for _ in x:\n        pass\n"), ("L14", "# \u00e9\n"), ("L14", "#\t\n"),
                ("L15", "x = 1\nx = 2\n"), ("L15", "def f(next):\n    return next\n"), ("L17", "# a type\n"),
                ("L17", "def f(x):\n    return x.open()\n"), ("L18", "class A(StopIteration):\n    pass\n"),
                ("L18", "class A:\n    def f(self):\n        pass\n    def f(self):\n        pass\n"),
                ("L19", "def f(x):\n    try:\n        f(x)\n    except TypeError:\n        pass\n"),
                ("L19", "def f(x):\n    raise ValueError\n"), ("L20", "def f(x, y):\n    return x is y\n"),
                ("L21", "def f(x: int):\n    return x\n"), ("L22", "def f(x):\n    return x.split(sep=' ')\n"),
                ("L23", "def f(x):\n    y = range(x)\n    return y\n"), ("L24", "def f(x):\n    y = set(x)\n"),
                ("L26", "class A:\n    def __init__(self):\n        self.items = 1\n"),
                ("L27", "x = 'a%'\n"), ("L27", "def f(n):\n    return 2 ** n\n"),
                ("L28", "class A:\n    def __init__(self):\n        return None\n")):
            self.assertTrue(any(row.startswith(rule + " ") for row in Checker(text).look()), (rule, text))

    def test_what_is_taken(self):
        text = ('"""Words."""\n\nfrom bandscribe.errors import NoRow\n\nMOST = 6\n\n\ndef halves(xs):\n'
                '    for n, x in enumerate(xs):\n        if x is None or len(set(xs)) > MOST:\n'
                '            raise NoRow(n)\n    return sorted([x // 2 for x in xs], key=lambda x: -x)\n')
        self.assertEqual(Checker(text).look(), [])


if __name__ == "__main__":
    unittest.main()
