"""The rules of LANGUAGE.md that can be read off the package's files one by one; L and a number name the rule."""

import ast
import builtins
import re
import unittest
from pathlib import Path

PACKAGE = Path(__file__).resolve().parent.parent / "middlesay"
SEEN = {path.stem: path.read_bytes().decode("latin-1") for path in sorted(PACKAGE.glob("*.py"))}
TREES = {stem: ast.parse(text) for stem, text in SEEN.items()}
NODES = [(stem, node) for stem, tree in TREES.items() for node in ast.walk(tree)]

LIBRARY = {
    "heapq": ("heappush", "heappop", "heapify", "heapreplace", "heappushpop"),
    "math": ("gcd", "lcm", "isqrt", "comb", "perm", "factorial"),
    "itertools": ("product", "combinations", "permutations"),
}
USED_BUILTINS = set("""len range enumerate zip min max sum abs sorted reversed int str bool list tuple dict set
    isinstance ord repr any all divmod map iter next super property staticmethod classmethod object
    Exception ValueError TypeError KeyError IndexError LookupError ZeroDivisionError ArithmeticError OverflowError
    RuntimeError NotImplementedError AttributeError StopIteration NotImplemented True False None""".split())
VALUE_METHODS = set("""append clear copy count endswith extend find get index insert isalnum isalpha isdigit islower
    isspace isupper items join keys ljust lower lstrip partition pop remove replace reverse rfind rjust rpartition
    rsplit rstrip setdefault split splitlines startswith strip update upper values zfill bit_length
    title capitalize swapcase casefold center expandtabs removeprefix removesuffix rindex isascii isdecimal isnumeric
    istitle isidentifier isprintable translate add discard sort""".split())
DOUBLE = set("""__init__ __eq__ __repr__ __str__ __len__ __enter__ __exit__ __call__ __iter__ __lt__ __le__ __gt__
    __ge__ __ne__ __bool__ __contains__ __getitem__ __setitem__""".split())
BARRED_NAMES = set("""register mro elements open input law version_info with_traceback add_note attrgetter breakpoint
    builtins compile copyright credits delattr dir eval exec exit gc getattr globals hasattr help id importlib license
    locals methodcaller os quit setattr type vars sys""".split())
BARRED_WORDS = set("""typing typing_extensions enum Enum IntEnum StrEnum Flag IntFlag Generic Protocol ABC ABCMeta
    namedtuple NamedTuple TypedDict TYPE_CHECKING abstractmethod dataclass overload contextmanager _wall
    _WallAttr""".split())
BARRED_STATEMENTS = (ast.Global, ast.AsyncFunctionDef, ast.AsyncFor, ast.AsyncWith, ast.Await, ast.Import, ast.TryStar)
CAUGHT = {"KeyError", "ZeroDivisionError", "StopIteration", "ValueError", "LookupError", "IndexError"}
TAKES_LISTS = ("any", "all", "min", "max", "sum", "sorted")


def called_name(node):
    return node.func.id if isinstance(node, ast.Call) and isinstance(node.func, ast.Name) else None


def bound_names(tree):
    """Names that functions of a file bind: parameters, variables, nested functions."""
    for function in ast.walk(tree):
        if isinstance(function, (ast.FunctionDef, ast.Lambda)):
            for node in ast.walk(function):
                if isinstance(node, ast.arg):
                    yield node.arg
                elif isinstance(node, ast.Name) and isinstance(node.ctx, ast.Store):
                    yield node.id
                elif isinstance(node, ast.FunctionDef) and node is not function:
                    yield node.name


def top_names(tree):
    for node in tree.body:
        if isinstance(node, (ast.FunctionDef, ast.ClassDef)):
            yield node.name
        elif isinstance(node, ast.Assign):
            yield from [target.id for target in node.targets]
        elif isinstance(node, ast.ImportFrom):
            yield from [alias.asname or alias.name for alias in node.names]


class Files(unittest.TestCase):

    def test_l1_l14_nothing_but_files_with_plain_names(self):
        others = [path.name for path in PACKAGE.iterdir() if path.suffix != ".py" and path.name != "__pycache__"]
        self.assertEqual([], others)
        self.assertIn("__init__", SEEN)
        self.assertLessEqual(len(SEEN), 100)
        for stem in SEEN:
            self.assertRegex(stem, r"^([a-z][a-z0-9_]*|__init__)$")
            taken = stem != "__init__" and (hasattr(builtins, stem) or stem in LIBRARY)
            self.assertFalse(taken or stem.startswith(("law_", "test")), stem)

    def test_l14_signs(self):
        for stem, text in SEEN.items():
            self.assertEqual(None, re.search(r"[^ -~\n]", text), stem)

    def test_l10_sizes(self):
        for stem, text in SEEN.items():
            self.assertLessEqual(len(text.splitlines()), 399, stem)
            self.assertLessEqual(max(map(len, text.splitlines())), 120, stem)
        for stem, node in NODES:
            if isinstance(node, ast.FunctionDef):
                self.assertLessEqual(node.end_lineno - node.lineno + 1, 40, f"{stem}.{node.name}")

    def test_l17_words_of_strings_and_names(self):
        for stem, text in SEEN.items():
            bare = re.sub(r'""".*?"""|#.*', "", text, flags=re.DOTALL)
            self.assertEqual(set(), BARRED_WORDS & set(re.findall(r"\w+", bare)), stem)


class Imports(unittest.TestCase):

    def test_l2_l16_own_files_by_the_file_that_defines_and_the_library(self):
        for stem, node in NODES:
            if isinstance(node, ast.ImportFrom):
                self.assertEqual(0, node.level, stem)
                self.assertIn(node, TREES[stem].body, stem)
                for alias in node.names:
                    self.assertTrue(self._may_import(node.module, alias), f"{stem}: {node.module} {alias.name}")

    def _may_import(self, module, alias):
        if module in LIBRARY:
            return alias.name in LIBRARY[module] and alias.asname is None
        package, _, stem = module.partition(".")
        defined = [node.name for node in TREES[stem].body if isinstance(node, (ast.FunctionDef, ast.ClassDef))]
        assigned = [t.id for node in TREES[stem].body if isinstance(node, ast.Assign) for t in node.targets]
        return package == "middlesay" and alias.name in defined + assigned

    def test_l16_no_two_files_import_from_each_other(self):
        wanted = {stem: {node.module.partition(".")[2] for node in ast.walk(tree) if isinstance(node, ast.ImportFrom)}
                  for stem, tree in TREES.items()}
        while wanted:
            free = [stem for stem, others in wanted.items() if not others & set(wanted)]
            self.assertNotEqual([], free, wanted)
            for stem in free:
                del wanted[stem]


class Names(unittest.TestCase):

    def test_l3_plain_values_at_module_level(self):
        for stem, tree in TREES.items():
            for number, node in enumerate(tree.body):
                if isinstance(node, ast.Assign):
                    self.assertEqual(1, len(node.targets), stem)
                    self.assertIsInstance(node.targets[0], ast.Name, stem)
                    loaded = [inner for inner in ast.walk(node.value) if isinstance(inner, (ast.Call, ast.ListComp))]
                    self.assertEqual([], loaded, stem)
                elif isinstance(node, ast.Expr):
                    self.assertTrue(number == 0 and isinstance(node.value, ast.Constant), stem)
                else:
                    self.assertIsInstance(node, (ast.ImportFrom, ast.FunctionDef, ast.ClassDef), stem)

    def test_l15_one_binding_for_each_name(self):
        for stem, tree in TREES.items():
            names = list(top_names(tree))
            self.assertEqual(sorted(set(names)), sorted(names), stem)
            methods = [[f.name for f in node.body if isinstance(f, ast.FunctionDef)] for node in tree.body
                       if isinstance(node, ast.ClassDef)]
            for own in methods:
                self.assertEqual(sorted(set(own)), sorted(own), stem)

    def test_l15_no_name_of_an_import_a_class_or_a_builtin_inside(self):
        for stem, tree in TREES.items():
            taken = {alias.name for node in tree.body if isinstance(node, ast.ImportFrom) for alias in node.names}
            taken |= {node.name for node in tree.body if isinstance(node, ast.ClassDef)}
            self.assertEqual(set(), taken & set(bound_names(tree)), stem)
            names = set(top_names(tree)) | set(bound_names(tree))
            self.assertEqual(set(), names & (set(dir(builtins)) | BARRED_NAMES), stem)

    def test_l12_l8_no_name_begins_with_two_underscores(self):
        for stem, node in NODES:
            name = getattr(node, "name", None) or getattr(node, "id", None) or getattr(node, "attr", None) or "a"
            if name.startswith("__"):
                self.assertIn(name, DOUBLE, stem)
            self.assertRegex(name, r"^[A-Za-z0-9_]+$", stem)
            if isinstance(node, ast.ClassDef):
                self.assertRegex(name, r"^[A-Za-z]", stem)

    def test_l8_only_told_builtins(self):
        for stem, node in NODES:
            if isinstance(node, ast.Name) and hasattr(builtins, node.id):
                self.assertIn(node.id, USED_BUILTINS, f"{stem}:{node.lineno}")

    def test_l25_only_told_methods(self):
        own = {node.name for _, node in NODES if isinstance(node, ast.FunctionDef)}
        for stem, node in NODES:
            if isinstance(node, ast.Call) and isinstance(node.func, ast.Attribute):
                self.assertIn(node.func.attr, VALUE_METHODS | own, f"{stem}:{node.lineno}")
            if isinstance(node, ast.Attribute):
                self.assertNotIn(node.attr, ("format", "format_map", "mro", "args"), f"{stem}:{node.lineno}")

    def test_l18_no_name_is_a_method_and_an_attribute_of_a_class(self):
        for stem, node in NODES:
            if isinstance(node, ast.ClassDef):
                methods = {inner.name for inner in node.body if isinstance(inner, ast.FunctionDef)}
                assigned = {inner.attr for inner in ast.walk(node) if isinstance(inner, ast.Attribute)
                            and isinstance(inner.ctx, ast.Store)}
                self.assertEqual(set(), methods & assigned, stem)


class Statements(unittest.TestCase):

    def test_l6_statements_and_l4_decorators(self):
        for stem, node in NODES:
            self.assertNotIsInstance(node, BARRED_STATEMENTS, stem)
            if isinstance(node, (ast.FunctionDef, ast.ClassDef)):
                plain = ("property", "staticmethod", "classmethod")
                told = [name for name in node.decorator_list if not isinstance(name, ast.Attribute)]
                self.assertTrue(all(name.id in plain for name in told), f"{stem}.{node.name}")
            if isinstance(node, ast.ClassDef):
                self.assertIn(node, TREES[stem].body, f"{stem}.{node.name}")

    def test_l7_l27_no_points_no_parting_no_great_powers(self):
        for stem, node in NODES:
            if isinstance(node, ast.Constant):
                self.assertNotIsInstance(node.value, (float, complex, bytes), f"{stem}:{node.lineno}")
                self.assertIsNot(node.value, ..., f"{stem}:{node.lineno}")
                if isinstance(node.value, str):
                    self.assertNotIn("%", node.value, f"{stem}:{node.lineno}")
                    self.assertFalse(node.value.endswith(("._", ".__")), f"{stem}:{node.lineno}")
            if isinstance(node, (ast.BinOp, ast.AugAssign)):
                self.assertNotIsInstance(node.op, (ast.Div, ast.MatMult), f"{stem}:{node.lineno}")
                if isinstance(node, ast.BinOp) and isinstance(node.op, ast.Pow):
                    self.assertIsInstance(node.right, ast.Constant, f"{stem}:{node.lineno}")

    def test_l7_lists_where_a_class_has_eq(self):
        for stem, node in NODES:
            if called_name(node) in TAKES_LISTS:
                given = [argument for argument in node.args if isinstance(argument, ast.GeneratorExp)]
                self.assertEqual([], given, f"{stem}:{node.lineno}")

    def test_l20_is_with_none_true_false(self):
        for stem, node in NODES:
            if isinstance(node, ast.Compare):
                for sign, right in zip(node.ops, node.comparators):
                    if isinstance(sign, (ast.Is, ast.IsNot)):
                        plain = isinstance(right, ast.Constant) and right.value in (None, True, False)
                        self.assertTrue(plain, f"{stem}:{node.lineno}")

    def test_l19_errors_are_caught_by_their_names(self):
        own = {node.name for node in TREES["errors"].body if isinstance(node, ast.ClassDef)}
        for stem, node in NODES:
            if isinstance(node, ast.ExceptHandler):
                caught = node.type.elts if isinstance(node.type, ast.Tuple) else [node.type]
                self.assertTrue(all(error.id in CAUGHT | own for error in caught), f"{stem}:{node.lineno}")
            if isinstance(node, ast.Raise) and node.exc is not None:
                self.assertIsInstance(node.exc, ast.Call, f"{stem}:{node.lineno}")

    def test_l24_sets_stand_where_they_may(self):
        around = {inner: node for _, node in NODES for inner in ast.iter_child_nodes(node)}
        for stem, node in NODES:
            if isinstance(node, (ast.Set, ast.SetComp)) or called_name(node) == "set":
                outer = around[node]
                while isinstance(outer, ast.BinOp):
                    outer = around[outer]
                plain = called_name(outer) in ("sorted", "len") or isinstance(outer, ast.Compare)
                kept = isinstance(outer, ast.Assign) and isinstance(outer.targets[0], ast.Name)
                self.assertTrue(plain or kept, f"{stem}:{node.lineno}")

    def test_l28_what_told_methods_return(self):
        for stem, node in NODES:
            if isinstance(node, ast.FunctionDef) and node.name in ("__len__", "__str__", "__repr__"):
                self.assertIsInstance(node.body[-1], ast.Return, f"{stem}:{node.lineno}")
            if isinstance(node, ast.FunctionDef) and node.name == "__init__":
                returns = [inner for inner in ast.walk(node) if isinstance(inner, ast.Return)]
                self.assertEqual([], returns, f"{stem}:{node.lineno}")


if __name__ == "__main__":
    unittest.main()
