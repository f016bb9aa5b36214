"""The files of the package keep to the subset of Python that the program is written in."""

import ast
import builtins
import os
import re
import unittest
import warnings

ROOT = os.path.dirname(os.path.dirname(os.path.abspath(__file__)))
PACKAGE = os.path.join(ROOT, "forehouse")

LIBRARY = {"heapq": "heappush heappop heapify heapreplace heappushpop",
           "math": "gcd lcm isqrt comb perm factorial",
           "itertools": "product combinations permutations"}

BUILTINS = set("""len range enumerate zip min max sum abs sorted reversed int str bool bytes list
tuple dict set frozenset isinstance ord repr any all divmod iter next map super property
staticmethod classmethod object float Exception ValueError TypeError KeyError IndexError LookupError
ZeroDivisionError ArithmeticError OverflowError RuntimeError NotImplementedError AttributeError
StopIteration NotImplemented""".split())

METHODS = set("""append clear copy count endswith extend find get index insert isalnum isalpha
isdigit islower isspace isupper items join keys ljust lower lstrip partition pop remove replace
reverse rfind rjust rpartition rsplit rstrip setdefault split splitlines startswith strip update
upper values zfill bit_length""".split())

SPECIAL = set("__init__ __eq__ __repr__ __str__ __len__ __enter__ __exit__ __call__ __iter__".split())

BARRED = set("""register mro elements open input law version_info with_traceback add_note
attrgetter breakpoint builtins compile copyright credits delattr dir eval exec exit gc getattr
globals hasattr help id importlib license locals methodcaller os quit setattr type vars sys
typing typing_extensions enum Enum IntEnum StrEnum Flag IntFlag Generic Protocol ABC ABCMeta
namedtuple NamedTuple TypedDict TYPE_CHECKING abstractmethod""".split())

# Calls whose results are iterated on the spot, and the calls that may do so.
AT_ONCE = {"zip", "enumerate", "reversed", "range", "items", "keys", "values"}
TAKERS = {"list", "tuple", "dict", "sorted", "sum", "any", "all", "enumerate", "zip", "reversed"}
FOLDERS = {"any", "all", "min", "max", "sum", "sorted"}

# Those of the package that it catches itself.
OWN_ERRORS = {"ForeError"}


def sources():
    for name in sorted(os.listdir(PACKAGE)):
        if name != "__pycache__":
            with open(os.path.join(PACKAGE, name), encoding="utf-8", newline="") as file:
                yield name, file.read()


def called(node):
    """The name of what is called, if this is a call."""
    if not isinstance(node, ast.Call):
        return None
    if isinstance(node.func, ast.Name):
        return node.func.id
    return node.func.attr if isinstance(node.func, ast.Attribute) else None


class Checker:
    """Gathers what is wrong in one file."""

    def __init__(self, text, own_methods=()):
        self.faults = []
        self.text = text
        self.own_methods = set(own_methods)
        with warnings.catch_warnings():
            warnings.simplefilter("error")
            self.tree = ast.parse(text)
        self.parents = {child: node for node in ast.walk(self.tree)
                        for child in ast.iter_child_nodes(node)}
        self.docs = {node.body[0].value for node in ast.walk(self.tree)
                     if isinstance(node, (ast.Module, ast.ClassDef, ast.FunctionDef))
                     and node.body and isinstance(node.body[0], ast.Expr)}
        self.fixed = {alias.asname or alias.name for node in self.tree.body
                      if isinstance(node, ast.ImportFrom) for alias in node.names}
        self.fixed |= {node.name for node in self.tree.body if isinstance(node, ast.ClassDef)}

    def fault(self, node, why):
        self.faults.append((getattr(node, "lineno", 0), why))

    def check(self):
        self.check_lines()
        for node in self.tree.body:
            self.check_top(node)
        for node in ast.walk(self.tree):
            for kind in type(node).__mro__:
                look = getattr(self, "see_" + kind.__name__, None)
                if look is not None:
                    look(node)
        return self.faults

    def check_lines(self):
        lines = self.text.split("\n")
        if len(lines) - 1 > 399:
            self.fault(None, "long file")
        for number, line in enumerate(lines, 1):
            if len(line) > 120 or re.search(r"[^ -~]", line):
                self.faults.append((number, "line"))

    def check_top(self, node):
        fine = (ast.ImportFrom, ast.FunctionDef, ast.ClassDef)
        if isinstance(node, ast.Expr) and node.value in self.docs:
            return
        if isinstance(node, ast.Assign):
            if len(node.targets) != 1 or not isinstance(node.targets[0], ast.Name):
                self.fault(node, "assignment at module level")
            try:
                ast.literal_eval(node.value)
            except ValueError:
                self.fault(node, "no plain value")
        elif not isinstance(node, fine):
            self.fault(node, "statement at module level")

    def see_ImportFrom(self, node):
        names = [alias.name for alias in node.names]
        if self.parents[node] is not self.tree or node.level or "*" in names:
            self.fault(node, "import")
        if node.module in LIBRARY:
            if not set(names) <= set(LIBRARY[node.module].split()):
                self.fault(node, "import of a library")
        elif not (node.module or "").startswith("forehouse."):
            self.fault(node, "import from outside")

    def see_FunctionDef(self, node):
        if node.end_lineno - node.lineno + 1 > 40:
            self.fault(node, "long function")
        for decorator in node.decorator_list:
            if not (isinstance(decorator, ast.Name) and decorator.id in
                    ("property", "staticmethod", "classmethod")):
                self.fault(node, "decorator")
        if node.name.startswith("__") and node.name not in SPECIAL:
            self.fault(node, "double underscores")
        if not isinstance(self.parents[node], ast.ClassDef):
            self.name(node, node.name)
        for part in (*node.args.posonlyargs, *node.args.args, *node.args.kwonlyargs):
            self.name(part, part.arg)

    def name(self, node, name):
        """A name that is bound: none of a builtin, of an import or a class of the file."""
        if hasattr(builtins, name) or name in BARRED or name in self.fixed:
            self.fault(node, "name " + name)
        if name.startswith("__"):
            self.fault(node, "name " + name)

    def see_Name(self, node):
        if isinstance(node.ctx, ast.Store):
            self.name(node, node.id)
        elif isinstance(node.ctx, ast.Load):
            if hasattr(builtins, node.id) and node.id not in BUILTINS:
                self.fault(node, "builtin " + node.id)
            if node.id == "_":
                self.fault(node, "_ is read")
            if node.id in ("gcd", "lcm") and called(self.parents[node]) != node.id:
                self.fault(node, "library name kept")

    def see_Attribute(self, node):
        if node.attr in ("format", "format_map", "mro", "args") or (
                node.attr.startswith("__") and node.attr != "__init__"):
            self.fault(node, "attribute " + node.attr)

    def see_Call(self, node):
        name = called(node)
        if isinstance(node.func, ast.Attribute):
            if name not in METHODS and name not in self.own_methods and name != "__init__":
                self.fault(node, "method " + name)
        if name in FOLDERS and node.args and isinstance(node.args[0], ast.GeneratorExp):
            self.fault(node, "generator expression")
        if name in AT_ONCE and not (name == "values" and name in self.own_methods):
            self.at_once(node, name)
        if name == "sort":
            self.fault(node, "sort")

    def at_once(self, node, name):
        parent = self.parents[node]
        if isinstance(parent, (ast.For, ast.comprehension)) and parent.iter is node:
            return
        if called(parent) in TAKERS and node in parent.args:
            return
        if name == "range" and isinstance(parent, ast.Compare):
            return
        self.fault(node, "kept " + name)

    def see_BinOp(self, node):
        if isinstance(node.op, (ast.Div, ast.MatMult)):
            self.fault(node, "/")
        if isinstance(node.op, ast.Pow) and not isinstance(node.right, ast.Constant):
            self.fault(node, "power")

    def see_Constant(self, node):
        if isinstance(node.value, (float, complex)):
            self.fault(node, "float")
        if isinstance(node.value, str) and node not in self.docs:
            if set(re.findall(r"\w+", node.value)) & BARRED or "%" in node.value:
                self.fault(node, "word in a string")
            if len(node.value) > 4 and node.value[:2] == "__" == node.value[-2:]:
                self.fault(node, "string of a special name")

    def see_Compare(self, node):
        for op, right in zip(node.ops, node.comparators):
            if isinstance(op, (ast.Is, ast.IsNot)):
                if not (isinstance(right, ast.Constant) and right.value in (None, True, False)):
                    self.fault(node, "is")

    def see_Starred(self, node):
        if isinstance(node.ctx, ast.Load) and not isinstance(node.value, (ast.Name, ast.Attribute)):
            self.fault(node, "star")

    def see_Try(self, node):
        # Own errors may be caught around anything; of Python's own see L19 first.
        for handler in node.handlers:
            if not isinstance(handler.type, ast.Name) or handler.type.id not in OWN_ERRORS:
                self.fault(node, "try: look at L19 first")
        if node.finalbody:
            self.fault(node, "finally: look at L6 first")

    def see_GeneratorExp(self, node):
        self.fault(node, "generator expression: look at L7 first")

    def barred(self, node):
        self.fault(node, type(node).__name__)

    see_Global = see_AsyncFunctionDef = see_Await = see_Set = see_SetComp = barred
    see_AsyncFor = see_AsyncWith = see_Match = see_Lambda = see_Import = barred
    see_Yield = see_YieldFrom = see_NamedExpr = see_Delete = see_JoinedStr = barred


def methods_of(texts):
    return {node.name for text in texts for top in ast.parse(text).body
            if isinstance(top, ast.ClassDef) for node in top.body
            if isinstance(node, ast.FunctionDef)}


class LanguageTest(unittest.TestCase):

    def test_each_file(self):
        own = methods_of([text for _, text in sources()])
        for name, text in sources():
            self.assertRegex(name, r"^[a-z_][a-z0-9_]*\.py$")
            self.assertEqual(Checker(text, own).check(), [], name)

    def test_imports_name_the_file_that_defines_the_name_and_make_no_ring(self):
        trees = {"forehouse." + name[:-3]: ast.parse(text) for name, text in sources()}
        needs = {}
        for name, tree in trees.items():
            needs[name] = set()
            for node in tree.body:
                if not isinstance(node, ast.ImportFrom) or node.module in LIBRARY:
                    continue
                needs[name].add(node.module)
                defined = set()
                for top in trees[node.module].body:
                    if isinstance(top, (ast.FunctionDef, ast.ClassDef)):
                        defined.add(top.name)
                    if isinstance(top, ast.Assign):
                        defined.add(top.targets[0].id)
                for alias in node.names:
                    self.assertIn(alias.name, defined, (name, alias.name))
        while needs:
            free = [name for name in needs if not needs[name] & set(needs)]
            self.assertTrue(free, needs)
            for name in free:
                del needs[name]

    def test_each_import_is_used(self):
        for name, text in sources():
            tree = ast.parse(text)
            used = {node.id for node in ast.walk(tree) if isinstance(node, ast.Name)}
            for node in tree.body:
                if isinstance(node, ast.ImportFrom):
                    for alias in node.names:
                        self.assertIn(alias.name, used, (name, alias.name))

    def test_each_function_is_used_or_asked_for(self):
        texts = dict(sources())
        words = re.findall(r"\w+", "\n".join(texts.values()))
        tests = os.path.join(ROOT, "tests")
        asked = ""
        for name in os.listdir(tests):
            if name.endswith(".py"):
                with open(os.path.join(tests, name), encoding="utf-8") as file:
                    asked += file.read()
        for name, text in texts.items():
            for node in ast.parse(text).body:
                if isinstance(node, ast.FunctionDef) and words.count(node.name) == 1:
                    self.assertTrue(node.name in asked, (name, node.name))

    def test_the_checker_finds_faults(self):
        for text in ("import os\n", "from os import path\n", "x = 1.5\n", "x = y = 1\n",
                     "x = len([])\n", "def f(list):\n    return 1\n", "def f(x):\n    return x / 2\n",
                     "def f(x):\n    return any(y for y in x)\n", "def f(x):\n    z = zip(x)\n",
                     "def f(x):\n    return type(x)\n", "def f(x):\n    return x.isnull()\n",
                     "def f(x):\n    x.sort()\n", "def f(x):\n    return x is 7 - x\n",
                     "def f(x):\n    return {1, x}\n", "def f(x):\n    global y\n",
                     "def f(x):\n    return '5 %'\n", "x = '\u00e9'\n",
                     "def f(x):\n" + "    x = 1\n" * 41, "x = 1\n" * 401,
                     "from math import gcd\ndef f(x):\n    gcd = 1\n",
                     "def f(x):\n    try:\n        pass\n    except KeyError:\n        pass\n",
                     "def f(x):\n    try:\n        pass\n    except (ForeError, KeyError):\n"
                     "        pass\n",
                     "def f(x):\n    try:\n        pass\n    finally:\n        pass\n"):
            self.assertNotEqual(Checker(text).check(), [], text)


if __name__ == "__main__":
    unittest.main()
