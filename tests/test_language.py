"""Tests of the files of the package: the rules of the language that can be seen in the code alone."""

import ast
import os
import re
import unittest

HERE = os.path.dirname(os.path.dirname(os.path.abspath(__file__)))
PACKAGE = os.path.join(HERE, "lackmark")

BUILTINS = """len range enumerate zip min max sum abs sorted reversed int str bool list tuple dict set isinstance ord repr
    any all divmod map iter next getattr hasattr setattr super property classmethod staticmethod Exception ValueError
    TypeError KeyError IndexError LookupError ZeroDivisionError ArithmeticError OverflowError RuntimeError
    NotImplementedError AttributeError StopIteration NotImplemented""".split()
DUNDERS = """init eq repr str len enter exit call iter lt le gt ge ne add sub mul floordiv mod pow and or xor lshift
    rshift radd rsub rmul rfloordiv rmod rand ror rxor rlshift rrshift iadd isub imul ifloordiv imod ipow iand ior ixor
    ilshift irshift neg pos invert abs bool contains getitem setitem""".split()
METHODS = """append clear copy count endswith extend find get index insert isalnum isalpha isdigit islower isspace
    isupper items join keys ljust lower lstrip partition pop remove replace reverse rfind rjust rpartition rsplit rstrip
    setdefault split splitlines startswith strip update upper values zfill bit_length add discard title capitalize
    swapcase casefold center expandtabs removeprefix removesuffix rindex isascii isdecimal isnumeric istitle
    isidentifier isprintable format from_iterable""".split()
NEVER_NAMES = "register mro elements open input law version_info with_traceback add_note".split()
NEVER_VARIABLES = """attrgetter breakpoint builtins compile copyright credits delattr dir eval exec exit gc globals help
    id importlib license locals methodcaller os quit type vars sys hash filter format object print round chr bytes
    frozenset memoryview bytearray float complex slice""".split()
NEVER_WORDS = """type typing typing_extensions enum Enum IntEnum StrEnum Flag IntFlag Generic Protocol ABC ABCMeta
    namedtuple NamedTuple TypedDict TYPE_CHECKING abstractmethod Meta""".split()
LIBRARY = {"math": "gcd lcm isqrt comb perm factorial".split(), "collections": ["defaultdict"],
           "itertools": "product combinations permutations chain accumulate pairwise islice zip_longest".split()}
NEVER_NODES = (ast.Global, ast.AsyncFunctionDef, ast.AsyncFor, ast.AsyncWith, ast.Await, ast.Div, ast.MatMult,
               ast.GeneratorExp, ast.TypeAlias if hasattr(ast, "TypeAlias") else ast.Global)
CHANGING = "append clear extend insert pop remove reverse setdefault update add discard sort".split()
ALSO_TOUCHED = ("__name__", "__class__", "__init__")


def texts():
    """Return the paths of the files of the package, relative to it, with their texts."""
    found = {}
    for folder, folders, files in os.walk(PACKAGE):
        folders[:] = sorted(name for name in folders if name != "__pycache__")
        for name in sorted(files):
            path = os.path.join(folder, name)
            with open(path, "rb") as file:
                found[os.path.relpath(path, PACKAGE)] = file.read().decode("utf-8")
    return found


def without_comments(text):
    """Return a text without its comments and docstrings, in which every word may stand."""
    tree = ast.parse(text)
    for node in ast.walk(tree):
        if isinstance(node, (ast.Module, ast.ClassDef, ast.FunctionDef)) and ast.get_docstring(node) is not None:
            node.body[0] = ast.Pass()
    return ast.unparse(tree)


class TestLanguage(unittest.TestCase):

    def setUp(self):
        self.texts = texts()
        self.trees = {path: ast.parse(text) for path, text in self.texts.items()}
        self.nodes = [(path, node) for path, tree in self.trees.items() for node in ast.walk(tree)]

    def of_kind(self, *kinds):
        return [(path, node) for path, node in self.nodes if isinstance(node, kinds)]

    def test_l1_l14_files(self):
        self.assertIn("__init__.py", self.texts)
        self.assertLessEqual(len(self.texts), 100)
        for path in self.texts:
            self.assertRegex(path, r"^([a-z0-9_]+/)*[a-z0-9_]+\.py$")
            self.assertNotRegex(path, r"(^|/)(test|tests|testing|test_.*|law_.*|site|conftest)(\.py|/)")

    def test_l10_sizes(self):
        for path, text in self.texts.items():
            self.assertLessEqual(len(text.splitlines()), 399, path)
            for at, line in enumerate(text.split("\n")):
                self.assertLessEqual(len(line), 120, (path, at + 1))
        for path, node in self.of_kind(ast.FunctionDef):
            self.assertLessEqual(node.end_lineno - node.lineno + 1, 40, (path, node.name))

    def test_l14_characters(self):
        for path, text in self.texts.items():
            self.assertRegex(text, r"\A[ -~\n]*\Z", path)

    def test_l2_l16_imports(self):
        for path, node in self.of_kind(ast.Import, ast.ImportFrom):
            self.assertIsInstance(node, ast.ImportFrom, path)
            self.assertEqual(node.level, 0, path)
            names = [alias.name for alias in node.names]
            self.assertNotIn("*", names, path)
            if node.module in LIBRARY:
                self.assertLessEqual(set(names), set(LIBRARY[node.module]), path)
                continue
            self.assertRegex(node.module, r"^(lackmark\.[a-z_.]+|__future__)$", path)
            if node.module != "__future__":
                self.assertLessEqual(set(names), self.defined_in(node.module), (path, node.module))

    def defined_in(self, name):
        """Return the names that a module of the package defines itself."""
        tree = self.trees[os.path.join(*name.split(".")[1:]) + ".py"]
        found = {node.name for node in tree.body if isinstance(node, (ast.FunctionDef, ast.ClassDef))}
        return found | {node.targets[0].id for node in tree.body if isinstance(node, ast.Assign)}

    def test_l16_no_circles(self):
        ahead = {path: {node.module.split(".", 1)[1].replace(".", "/") + ".py" for node in tree.body
                        if isinstance(node, ast.ImportFrom) and node.module.startswith("lackmark.")}
                 for path, tree in self.trees.items()}
        while ahead:
            ends = [path for path in ahead if not ahead[path] & set(ahead)]
            self.assertTrue(ends, f"these files import from each other: {sorted(ahead)}")
            for path in ends:
                del ahead[path]

    def test_l3_l15_module_level(self):
        kinds = (ast.ImportFrom, ast.FunctionDef, ast.ClassDef, ast.Assign, ast.Expr)
        for path, tree in self.trees.items():
            bound = []
            for at, node in enumerate(tree.body):
                self.assertIsInstance(node, kinds, (path, node.lineno))
                if isinstance(node, ast.Expr):
                    self.assertEqual((at, ast.get_docstring(tree) is None), (0, False), path)
                bound = bound + [name.asname or name.name for name in getattr(node, "names", [])]
                bound = bound + [target.id for target in getattr(node, "targets", [])]
                bound = bound + ([node.name] if isinstance(node, (ast.FunctionDef, ast.ClassDef)) else [])
            self.assertEqual(len(bound), len(set(bound)), path)

    def test_l4_l5_decorators_and_double_underscores(self):
        for path, node in self.of_kind(ast.FunctionDef, ast.ClassDef):
            for decorator in node.decorator_list:
                self.assertRegex(ast.unparse(decorator), r"^(property|classmethod|staticmethod|\w+\.setter)$", path)
            if node.name.startswith("__"):
                self.assertIn(node.name, [f"__{name}__" for name in DUNDERS], path)
        for path, node in self.of_kind(ast.Attribute):
            if node.attr.startswith("__"):
                self.assertIn(node.attr, ALSO_TOUCHED, (path, node.lineno))

    def test_l5_iteration(self):
        for path, node in self.of_kind(ast.ClassDef):
            names = [item.name for item in node.body if isinstance(item, ast.FunctionDef)]
            if "__getitem__" in names:
                self.assertIn("__iter__", names, (path, node.name))

    def test_l5_sorted_min_and_max(self):
        # Data have an order of their own, so that these take nothing but what is plainly numbers or strings.
        for path, node in self.of_kind(ast.Call):
            if isinstance(node.func, ast.Name) and node.func.id in ("sorted", "min", "max"):
                found = [ast.unparse(part) for part in node.args] + [ast.unparse(part) for part in node.keywords]
                plain = r"^(\[?(len|int|ord|str|repr)\(|\d+$|range\(|key=(len|int|str)$)"
                self.assertTrue(any(re.match(plain, text) for text in found), (path, node.lineno))

    def test_l5_no_augmented_assignments(self):
        # Sessions have an in-place operator, so that `+=` could be taken for it.
        self.assertEqual(self.of_kind(ast.AugAssign), [])

    def test_l5_properties_are_not_assigned(self):
        names = {node.name for _, node in self.of_kind(ast.FunctionDef)
                 if "property" in [ast.unparse(decorator) for decorator in node.decorator_list]}
        self.assertIn("rows", names)
        for path, node in self.of_kind(ast.Attribute):
            if isinstance(node.ctx, (ast.Store, ast.Del)):
                self.assertNotIn(node.attr, names, (path, node.lineno))

    def test_l5_operators_change_nothing(self):
        # By their names, all functions that an operator, a property or a comparison calls, and those that these call.
        functions = {}
        for _, node in self.of_kind(ast.FunctionDef):
            functions.setdefault(node.name, []).append(node)
        special = [f"__{name}__" for name in DUNDERS if name not in ("init", "call", "enter", "exit", "iadd", "iter")]
        ahead = [node for _, node in self.of_kind(ast.FunctionDef)
                 if node.name in special or node.decorator_list]
        seen = []
        while ahead:
            node = ahead.pop()
            seen.append(node)
            for part in ast.walk(node):
                self.assertNotIsInstance(part, (ast.Delete, ast.Nonlocal), node.name)
                if isinstance(part, (ast.Subscript, ast.Attribute)):
                    self.assertIsInstance(part.ctx, ast.Load, (node.name, ast.unparse(part)))
                if isinstance(part, ast.Call) and isinstance(part.func, ast.Attribute):
                    self.assertNotIn(part.func.attr, CHANGING, (node.name, ast.unparse(part)))
                called = ast.unparse(part.func).split(".")[-1] if isinstance(part, ast.Call) else None
                if called in functions and called != "__init__":
                    ahead = ahead + [other for other in functions[called] if other not in seen + ahead]
        self.assertGreater(len(seen), 40)

    def test_l6_l28_ends_of_with_blocks(self):
        ends = [node for _, node in self.of_kind(ast.FunctionDef) if node.name == "__exit__"]
        self.assertEqual(len(ends), 1)
        for line in ends[0].body:
            self.assertRegex(ast.unparse(line), r"^(session = self\.session|session\.\w+ = session\.\w+\.\w+)$")
        self.assertEqual(ast.unparse(ends[0].args), "self, kind, value, trace")

    def test_l18_l26_names_of_methods_and_attributes(self):
        methods = {item.name for _, node in self.of_kind(ast.ClassDef) for item in node.body
                   if isinstance(item, ast.FunctionDef)}
        attributes = {node.attr for _, node in self.of_kind(ast.Attribute) if isinstance(node.ctx, ast.Store)}
        self.assertEqual(methods & attributes, set())
        builtin = {name for kind in (str, int, list, dict, set, bytes, tuple) for name in dir(kind)}
        self.assertEqual((methods - {f"__{name}__" for name in DUNDERS} | attributes) & builtin, set())
        # A method is called where it stands.
        for path, tree in self.trees.items():
            called = {id(node.func) for node in ast.walk(tree) if isinstance(node, ast.Call)}
            for node in ast.walk(tree):
                if isinstance(node, ast.Attribute) and node.attr in methods | set(METHODS):
                    plain = [name for _, name in self.of_kind(ast.FunctionDef)
                             if name.name == node.attr and not name.decorator_list]
                    if plain:
                        self.assertIn(id(node), called, (path, node.lineno))

    def test_l3_tables(self):
        for path, tree in self.trees.items():
            known = {node.name for node in tree.body if isinstance(node, ast.FunctionDef)}
            for node in [node for node in tree.body if isinstance(node, ast.Assign)]:
                for part in ast.walk(node.value):
                    self.assertIsInstance(part, (ast.Constant, ast.Tuple, ast.Dict, ast.Name, ast.UnaryOp, ast.USub,
                                                 ast.Load), (path, node.lineno))
                    if isinstance(part, ast.Name):
                        self.assertIn(part.id, known, (path, node.lineno))

    def test_l7_lists_for_all_and_any(self):
        for path, node in self.of_kind(ast.Call):
            if isinstance(node.func, ast.Name) and node.func.id in ("all", "any", "sum"):
                self.assertIsInstance(node.args[0], (ast.ListComp, ast.Name, ast.Subscript), (path, node.lineno))

    def test_l22_as_many_arguments_as_are_taken(self):
        functions = {}
        for path, tree in self.trees.items():
            functions.update({node.name: node.args for node in tree.body if isinstance(node, ast.FunctionDef)
                              if node.name not in functions or not node.name.startswith("_")})
        for path, node in self.of_kind(ast.Call):
            if isinstance(node.func, ast.Name) and node.func.id in functions and not node.func.id.startswith("_"):
                args = functions[node.func.id]
                most, least = len(args.args), len(args.args) - len(args.defaults)
                self.assertTrue(least <= len(node.args) <= most, (path, node.lineno))
                self.assertLessEqual({word.arg for word in node.keywords}, {arg.arg for arg in args.kwonlyargs})

    def test_l6_l7_statements_and_expressions(self):
        for path, node in self.nodes:
            self.assertNotIsInstance(node, NEVER_NODES, (path, getattr(node, "lineno", None)))
            if isinstance(node, ast.Constant):
                self.assertNotIsInstance(node.value, (float, complex), path)

    def test_l8_l15_builtins(self):
        every = set(dir(__builtins__) if not isinstance(__builtins__, dict) else __builtins__)
        for path, node in self.of_kind(ast.Name):
            if node.id in every:
                self.assertIn(node.id, BUILTINS, (path, node.lineno))
                self.assertIsInstance(node.ctx, ast.Load, (path, node.lineno))
        for path, node in self.of_kind(ast.FunctionDef, ast.Lambda):
            rest = [arg for arg in [node.args.vararg, node.args.kwarg] if arg is not None]
            for arg in node.args.posonlyargs + node.args.args + node.args.kwonlyargs + rest:
                self.assertNotIn(arg.arg, every, (path, node.lineno))

    def test_l15_names_of_classes_and_imports(self):
        for path, tree in self.trees.items():
            taken = {node.name for node in tree.body if isinstance(node, ast.ClassDef)}
            taken |= {alias.name for node in tree.body for alias in getattr(node, "names", [])}
            for node in ast.walk(tree):
                if isinstance(node, ast.arg) or (isinstance(node, ast.Name) and isinstance(node.ctx, ast.Store)):
                    self.assertNotIn(getattr(node, "id", None) or getattr(node, "arg", None), taken, path)

    def test_each_import_is_used(self):
        for path, tree in self.trees.items():
            used = {node.id for node in ast.walk(tree) if isinstance(node, ast.Name)}
            names = {alias.name for node in tree.body for alias in getattr(node, "names", [])}
            self.assertLessEqual(names, used, path)

    def test_l23_generators(self):
        makers = {node.name for _, node in self.of_kind(ast.FunctionDef)
                  if any(isinstance(part, (ast.Yield, ast.YieldFrom)) for part in ast.walk(node))}
        self.assertEqual(makers, {"walk"})
        at_once = "list tuple dict sorted sum any all enumerate zip".split()
        for path, tree in self.trees.items():
            fine = {id(node.iter.func) for node in ast.walk(tree) if isinstance(node, (ast.For, ast.comprehension))
                    and isinstance(node.iter, ast.Call)}
            fine |= {id(part.func) for node in ast.walk(tree) if isinstance(node, ast.Call)
                     and isinstance(node.func, ast.Name) and node.func.id in at_once
                     for part in node.args if isinstance(part, ast.Call)}
            for node in ast.walk(tree):
                if isinstance(node, ast.Name) and node.id in makers:
                    self.assertIn(id(node), fine, (path, node.lineno))

    def test_l23_not_kept(self):
        for path, node in self.of_kind(ast.Assign, ast.Return):
            value = node.value
            if isinstance(value, ast.Call) and isinstance(value.func, ast.Name):
                self.assertNotIn(value.func.id, ["zip", "enumerate", "reversed", "map", "iter"], (path, node.lineno))

    def test_l24_sets_are_not_kept_or_iterated(self):
        for path, node in self.of_kind(ast.Assign, ast.Return, ast.For, ast.comprehension):
            part = node.iter if isinstance(node, (ast.For, ast.comprehension)) else node.value
            self.assertNotIsInstance(part, (ast.Set, ast.SetComp), path)

    def test_l12_l17_names(self):
        for path, node in self.nodes:
            names = [getattr(node, part, None) for part in ["id", "attr", "arg", "name", "asname"]]
            for name in [name for name in names if isinstance(name, str)]:
                self.assertNotIn(name, NEVER_NAMES, path)
                self.assertRegex(name, r"^(_|_?[A-Za-z][A-Za-z0-9_]*|__[a-z]+__)$", path)
                self.assertNotRegex(name, r"^_(pe|dcw|enum|cm|twin_re|lay|law|stub)_|^_(sre|wall)", path)
            if isinstance(node, (ast.Name, ast.arg)):
                self.assertNotIn(names[0] or names[2], NEVER_VARIABLES, path)

    def test_l17_words(self):
        for path, text in self.texts.items():
            words = re.findall(r"\w+", without_comments(text))
            self.assertFalse(set(words) & set(NEVER_WORDS), path)
            self.assertNotRegex(text, r"dataclass|overload|contextmanager|\(type\)|\bMeta\b|metaclass=|_wall|_WallAttr")

    def test_l19_errors(self):
        barred = "Exception TypeError ArithmeticError OverflowError RuntimeError NotImplementedError AttributeError"
        for path, node in self.of_kind(ast.ExceptHandler):
            self.assertIsNotNone(node.type, path)
            self.assertFalse(set(re.findall(r"\w+", ast.unparse(node.type))) & set(barred.split()), path)
        for path, node in self.of_kind(ast.Raise):
            self.assertTrue(node.exc is None or isinstance(node.exc, ast.Call), (path, node.lineno))

    def test_l20_is(self):
        for path, node in self.of_kind(ast.Compare):
            for sign, side in zip(node.ops, node.comparators):
                if isinstance(sign, (ast.Is, ast.IsNot)):
                    self.assertIn(ast.unparse(side), ["None", "True", "False"], (path, node.lineno))

    def test_l25_methods(self):
        own = {node.name for _, node in self.of_kind(ast.FunctionDef)}
        for path, node in self.of_kind(ast.Call):
            if isinstance(node.func, ast.Attribute):
                self.assertIn(node.func.attr, own | set(METHODS), (path, node.lineno))
                self.assertNotEqual(node.func.attr, "sort", (path, node.lineno))

    def test_l27_strings(self):
        for path, node in self.of_kind(ast.Constant):
            if isinstance(node.value, str):
                self.assertNotIn("%", node.value, path)
                self.assertFalse(node.value.endswith(("._", ".__")), path)
                self.assertNotRegex(node.value, r"^__.*__$", path)

    def test_l28_lengths(self):
        for path, node in self.of_kind(ast.FunctionDef):
            if node.name == "__len__":
                for end in [part for part in ast.walk(node) if isinstance(part, ast.Return)]:
                    self.assertRegex(ast.unparse(end), r"^return (len\(.*\)|\d+)$", path)


if __name__ == "__main__":
    unittest.main()
