"""The rules of ../shared/LANGUAGE.md, as far as a look at the syntax can tell."""

import ast
import builtins
import re
import unittest
from pathlib import Path

ROOT = Path(__file__).resolve().parent.parent
PACKAGE = ROOT / "nodearer"
FILES = sorted(PACKAGE.rglob("*.py"))

BUILTINS = set("""len range enumerate zip min max sum abs sorted reversed int str bool list tuple dict set isinstance ord
    repr any all divmod super property staticmethod classmethod Exception ValueError TypeError KeyError IndexError
    LookupError ZeroDivisionError ArithmeticError OverflowError RuntimeError NotImplementedError AttributeError
    StopIteration NotImplemented iter next""".split())
METHODS = set("""append clear copy count endswith extend find get index insert isalnum isalpha isdigit islower isspace
    isupper items join keys ljust lower lstrip partition pop remove replace reverse rfind rjust rpartition rsplit rstrip
    setdefault split splitlines startswith strip update upper values zfill bit_length add discard""".split())
DUNDERS = set("""__init__ __eq__ __repr__ __str__ __len__ __enter__ __exit__ __call__ __iter__ __add__ __sub__ __mul__
    __neg__ __abs__ __bool__""".split())
MATH = {"gcd", "lcm", "isqrt", "comb", "perm", "factorial"}
BAD_NAMES = set("register mro elements open input law version_info with_traceback add_note".split())
BAD_VARIABLES = set("""attrgetter breakpoint builtins compile copyright credits delattr dir eval exec exit gc getattr
    globals hasattr help id importlib license locals methodcaller os quit setattr type vars sys""".split())
BAD_WORDS = set("""type typing typing_extensions enum Enum IntEnum StrEnum Flag IntFlag Generic Protocol ABC ABCMeta
    namedtuple NamedTuple TypedDict TYPE_CHECKING abstractmethod""".split())
BAD_ATTRIBUTES = set("""items keys values pop update append clear extend insert remove reverse setdefault sort args
    encode decode hex fromhex format as_integer_ratio bit_count conjugate from_bytes is_integer to_bytes""".split())
STATEMENTS = (ast.FunctionDef, ast.ClassDef, ast.Assign, ast.AugAssign, ast.If, ast.While, ast.For, ast.Return,
              ast.Break, ast.Continue, ast.Pass, ast.Raise, ast.Delete, ast.Try, ast.With, ast.Expr, ast.ImportFrom)
NOT_USED = (ast.AsyncFunctionDef, ast.Await, ast.Global, ast.Nonlocal, ast.Import, ast.GeneratorExp, ast.Div,
            ast.MatMult, ast.SetComp, ast.NamedExpr, ast.Assert, ast.Match, ast.AnnAssign)


def module_name(path):
    parts = list(path.relative_to(ROOT).with_suffix("").parts)
    return ".".join(parts[:-1] if parts[-1] == "__init__" else parts)


TEXTS = {path: path.read_text(encoding="utf-8") for path in FILES}
TREES = {path: ast.parse(TEXTS[path]) for path in FILES}
MODULES = {module_name(path): TREES[path] for path in FILES}


def nodes(*kinds):
    """All nodes of these kinds, each with its file."""
    for path, tree in TREES.items():
        for node in ast.walk(tree):
            if isinstance(node, kinds):
                yield path.name, node


def docstrings(tree):
    for node in ast.walk(tree):
        if isinstance(node, (ast.Module, ast.ClassDef, ast.FunctionDef)) and ast.get_docstring(node) is not None:
            yield node.body[0].value


def arguments(function):
    told = function.args
    return [arg.arg for arg in told.posonlyargs + told.args + told.kwonlyargs + [told.vararg, told.kwarg] if arg]


def bound_names(function):
    names = set(arguments(function))
    for node in ast.walk(function):
        if isinstance(node, ast.Name) and isinstance(node.ctx, ast.Store):
            names.add(node.id)
        if isinstance(node, (ast.FunctionDef, ast.Lambda)) and node is not function:
            names |= set(arguments(node))
    return names


def methods(kind):
    return [node for node in kind.body if isinstance(node, ast.FunctionDef)]


CLASSES = {node.name: node for _, node in nodes(ast.ClassDef)}
OWN_METHODS = {method.name for kind in CLASSES.values() for method in methods(kind)}
STORED = {node.attr for _, node in nodes(ast.Attribute) if isinstance(node.ctx, ast.Store)}
VALUES = {target.id for kind in CLASSES.values() for node in kind.body if isinstance(node, ast.Assign)
          for target in node.targets}


class FilesTest(unittest.TestCase):
    def test_l1_l14_files(self):
        for path in PACKAGE.rglob("*"):
            if "__pycache__" in path.parts:
                continue
            if path.is_dir():
                self.assertTrue((path / "__init__.py").exists(), path)
                self.assertFalse(path.with_suffix(".py").exists(), path)
            else:
                self.assertRegex(path.name, r"^[a-z0-9_]+\.py$")
                self.assertNotIn(path.stem, set(dir(builtins)) | BAD_WORDS | {"test", "tests", "site", "conftest"})
        self.assertLessEqual(len(FILES), 100)

    def test_l10_l14_sizes_and_characters(self):
        for path, text in TEXTS.items():
            self.assertTrue(all(c == "\n" or " " <= c <= "~" for c in text), path)
            lines = text.split("\n")
            self.assertLessEqual(len(lines), 400, path)
            self.assertLessEqual(max(len(line) for line in lines), 120, path)
        for name, node in nodes(ast.FunctionDef):
            self.assertLessEqual(node.end_lineno - node.lineno + 1, 40, (name, node.name))

    def test_l17_words(self):
        for path, tree in TREES.items():
            for node in ast.walk(tree):
                for word in (getattr(node, "id", None), getattr(node, "name", None), getattr(node, "attr", None),
                             getattr(node, "arg", None)):
                    self.assertNotIn(word, BAD_WORDS | BAD_NAMES | {"dataclass", "overload", "contextmanager"}, path)
            told = [node.value for node in ast.walk(tree) if isinstance(node, ast.Constant)
                    and isinstance(node.value, str) and node not in list(docstrings(tree))]
            for text in told:
                self.assertFalse(set(re.findall(r"\w+", text)) & BAD_WORDS, (path, text))


class ImportsTest(unittest.TestCase):
    def test_l2_l16_imports(self):
        for path, tree in TREES.items():
            body = [node for node in tree.body if not isinstance(node, ast.Expr)]
            at_top = [node for node in body if isinstance(node, ast.ImportFrom)]
            self.assertEqual(body[:len(at_top)], at_top, path)
            self.assertEqual([n for n in ast.walk(tree) if isinstance(n, (ast.Import, ast.ImportFrom))], at_top, path)
            for node in at_top:
                self.assertEqual(node.level, 0)
                names = [alias.name for alias in node.names]
                self.assertTrue(all(alias.asname is None for alias in node.names), path)
                if node.module == "math":
                    self.assertLessEqual(set(names), MATH)
                    continue
                defined = set()
                for other in MODULES[node.module].body:
                    defined |= {other.name} if isinstance(other, (ast.FunctionDef, ast.ClassDef)) else set()
                    defined |= {t.id for t in other.targets} if isinstance(other, ast.Assign) else set()
                self.assertLessEqual(set(names), defined, path)

    def test_l16_no_circles(self):
        after = {name: {node.module for node in tree.body if isinstance(node, ast.ImportFrom)} & set(MODULES)
                 for name, tree in MODULES.items()}
        while after:
            ends = [name for name, others in after.items() if not others & set(after)]
            self.assertTrue(ends, after)
            after = {name: others for name, others in after.items() if name not in ends}

    def test_imported_names_are_used(self):
        for path, tree in TREES.items():
            used = {node.id for node in ast.walk(tree) if isinstance(node, ast.Name)}
            for node in tree.body:
                if isinstance(node, ast.ImportFrom):
                    self.assertLessEqual({alias.name for alias in node.names}, used, path)


class NamesTest(unittest.TestCase):
    def test_l8_l15_names(self):
        every = set(dir(builtins)) - {"_"}
        for path, tree in TREES.items():
            taken = {node.name for node in tree.body if isinstance(node, ast.ClassDef)}
            taken |= {alias.name for node in tree.body if isinstance(node, ast.ImportFrom) for alias in node.names}
            bound = set()
            for node in ast.walk(tree):
                if isinstance(node, (ast.FunctionDef, ast.Lambda)):
                    self.assertFalse(bound_names(node) & (taken | every | BAD_VARIABLES), (path, node.lineno))
                    bound |= bound_names(node)
                if isinstance(node, (ast.FunctionDef, ast.ClassDef)):
                    self.assertNotIn(node.name, every | BAD_VARIABLES)
            for node in ast.walk(tree):
                if isinstance(node, ast.Name) and node.id in every and node.id not in bound:
                    self.assertIn(node.id, BUILTINS, (path, node.lineno))

    def test_l12_names(self):
        for name, node in nodes(ast.Name, ast.FunctionDef, ast.ClassDef, ast.Attribute, ast.arg):
            word = getattr(node, "id", None) or getattr(node, "name", None) or getattr(node, "attr", None) or node.arg
            if word == "_":
                self.assertIsInstance(node.ctx, ast.Store, name)
            elif word not in DUNDERS:
                self.assertRegex(word, r"^_?[A-Za-z][A-Za-z0-9_]*$", name)
                self.assertNotRegex(word, r"^(_wall|_pe_|_dcw_|_enum_|_cm_|_twin_re_|_lay_|_law_|_stub_|_sre)")

    def test_l3_module_level(self):
        for path, tree in TREES.items():
            names = []
            for node in tree.body:
                if isinstance(node, ast.Assign):
                    self.assertEqual(len(node.targets), 1)
                    self.assertIsInstance(node.targets[0], ast.Name)
                    names.append(node.targets[0].id)
                    self.assertFalse([n for n in ast.walk(node.value) if isinstance(n, (ast.Call, ast.Name))], path)
                elif isinstance(node, ast.Expr):
                    self.assertIsInstance(node.value.value, str)
                else:
                    self.assertIsInstance(node, (ast.ImportFrom, ast.FunctionDef, ast.ClassDef))
                    names += [node.name] if not isinstance(node, ast.ImportFrom) else [a.name for a in node.names]
            self.assertEqual(len(names), len(set(names)), path)


class SyntaxTest(unittest.TestCase):
    def test_l6_l7_what_is_not_used(self):
        self.assertEqual([(name, node.lineno) for name, node in nodes(*NOT_USED) if hasattr(node, "lineno")], [])
        self.assertEqual([name for name, node in nodes(ast.Div, ast.MatMult)], [])
        for name, node in nodes(ast.stmt):
            self.assertIsInstance(node, STATEMENTS, (name, node.lineno))
        for name, node in nodes(ast.Constant):
            self.assertNotIsInstance(node.value, (float, complex, bytes), name)
        for name, node in nodes(ast.Try):
            self.assertEqual((node.finalbody, node.orelse), ([], []), name)
            for handler in node.handlers:
                self.assertIn(handler.type.id, CLASSES, name)

    def test_l4_l5_functions_and_classes(self):
        for name, node in nodes(ast.FunctionDef):
            for mark in node.decorator_list:
                self.assertIn(mark.id, {"property", "staticmethod", "classmethod"}, name)
            self.assertIsNone(node.returns)
            for default in node.args.defaults + [d for d in node.args.kw_defaults if d]:
                self.assertIsInstance(default, (ast.Constant, ast.UnaryOp, ast.Tuple), name)
        for kind in CLASSES.values():
            self.assertFalse(kind.decorator_list or kind.keywords)
            told = [method.name for method in methods(kind)]
            self.assertEqual(len(told), len(set(told)))
            self.assertFalse([n for n in told if n.startswith("__") and n not in DUNDERS], kind.name)
            for node in kind.body:
                if isinstance(node, ast.Assign):
                    self.assertIsInstance(node.value, ast.Constant, kind.name)
        self.assertFalse(VALUES & (STORED | OWN_METHODS | METHODS | set(CLASSES)))

    def test_l18_l26_attributes(self):
        self.assertFalse(STORED & BAD_ATTRIBUTES)
        self.assertFalse(STORED & OWN_METHODS)
        for name, node in nodes(ast.Attribute):
            if isinstance(node.ctx, ast.Load):
                self.assertIn(node.attr, STORED | OWN_METHODS | METHODS | VALUES, (name, node.lineno))

    def test_l5_names_with_decorators(self):
        marked = [(kind, method.name) for kind in CLASSES.values() for method in methods(kind) if method.decorator_list]
        for kind, name in marked:
            others = [other for other in CLASSES.values() if other is not kind]
            self.assertNotIn(name, {method.name for other in others for method in methods(other)}, kind.name)
            self.assertNotIn(name, METHODS | STORED | VALUES, kind.name)

    def test_l6_with(self):
        """What stands in __exit__ and in the method that it calls is only put back."""
        for kind in CLASSES.values():
            rows = {method.name: method for method in methods(kind)}
            if "__exit__" not in rows:
                continue
            self.assertEqual(arguments(rows["__exit__"]), ["self", "kind", "value", "trace"])
            call = rows["__exit__"].body[0].value
            self.assertEqual((len(rows["__exit__"].body), call.func.value.id, call.args), (1, "self", []))
            for row in rows[call.func.attr].body[1:]:
                self.assertIsInstance(row, ast.Assign)
                self.assertIsInstance(row.value, ast.Attribute)
                self.assertEqual(row.value.value.id, "self")

    def test_l25_methods(self):
        for name, node in nodes(ast.Call):
            if isinstance(node.func, ast.Attribute):
                self.assertIn(node.func.attr, OWN_METHODS | METHODS, (name, node.lineno))
                if node.func.attr in METHODS - OWN_METHODS:
                    self.assertFalse(node.keywords, (name, node.lineno))

    def test_l20_is(self):
        for name, node in nodes(ast.Compare):
            for sign, right in zip(node.ops, node.comparators):
                if isinstance(sign, (ast.Is, ast.IsNot)):
                    self.assertIsInstance(right, ast.Constant, (name, node.lineno))

    def test_l27_numbers_and_strings(self):
        for name, node in nodes(ast.BinOp):
            if isinstance(node.op, ast.Pow):
                self.assertIn(node.right.value, range(65), (name, node.lineno))
        for name, node in nodes(ast.Constant):
            if isinstance(node.value, str):
                self.assertNotIn("%", node.value, name)
                self.assertFalse(node.value.startswith("__"), name)

    def test_l23_l24_generators_and_sets(self):
        makers = {node.name for _, node in nodes(ast.FunctionDef)
                  if any(isinstance(part, (ast.Yield, ast.YieldFrom)) for part in ast.walk(node))}
        named = [node.name for _, node in nodes(ast.FunctionDef) if node.name in makers]
        self.assertEqual(len(named), len(set(named)))
        for path, tree in TREES.items():
            good = set()
            for node in ast.walk(tree):
                if isinstance(node, (ast.For, ast.comprehension)):
                    good.add(node.iter)
                elif isinstance(node, ast.Call) and isinstance(node.func, ast.Name):
                    if node.func.id in ("list", "tuple", "sorted", "len", "sum", "reversed", "enumerate", "zip"):
                        good |= set(node.args)
            for node in ast.walk(tree):
                if isinstance(node, ast.Call):
                    word = getattr(node.func, "attr", None) or getattr(node.func, "id", None)
                    if word in makers | {"zip", "enumerate", "reversed", "range", "items", "keys", "values", "set"}:
                        self.assertIn(node, good, (path, node.lineno))
                self.assertNotIsInstance(node, ast.Set, path)


if __name__ == "__main__":
    unittest.main()
