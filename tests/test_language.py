"""Rules of the language of the package that can be seen in its files; each test names its rules."""

import ast
import re
import unittest
import warnings
from pathlib import Path

PACKAGE = Path(__file__).resolve().parent.parent / "labelmoves"

BUILTINS = """len range enumerate zip min max sum abs sorted reversed int str bool bytes list tuple dict set frozenset
isinstance ord repr any all divmod Exception ValueError TypeError KeyError IndexError LookupError ZeroDivisionError
ArithmeticError OverflowError RuntimeError NotImplementedError AttributeError StopIteration NotImplemented iter next map
property staticmethod classmethod super object""".split()

LIBRARY = {
    "heapq": "heappush heappop heapify heapreplace heappushpop".split(),
    "math": "gcd lcm isqrt comb perm factorial".split(),
    "itertools": "product combinations permutations".split(),
}

METHODS = """append clear copy count endswith extend find get index insert isalnum isalpha isdigit islower isspace
isupper items join keys ljust lower lstrip partition pop remove replace reverse rfind rjust rpartition rsplit rstrip
setdefault split splitlines startswith strip update upper values zfill bit_length title capitalize swapcase casefold
center expandtabs removeprefix removesuffix rindex isascii isdecimal isnumeric istitle isidentifier isprintable sort
add discard __init__""".split()

STATEMENTS = (
    ast.FunctionDef, ast.ClassDef, ast.Return, ast.Delete, ast.Assign, ast.AugAssign, ast.For, ast.While, ast.If, ast.With,
    ast.Match, ast.Raise, ast.Try, ast.Assert, ast.ImportFrom, ast.Nonlocal, ast.Expr, ast.Pass, ast.Break, ast.Continue,
)

DOUBLE_UNDERSCORED = "__init__ __eq__ __repr__ __str__ __len__ __enter__ __exit__ __call__ __iter__ __bool__".split()

BARRED_NAMES = "register mro elements open input law version_info with_traceback add_note format format_map".split()

INTERFACE = {
    "errors": """WrongValue NotAHouse NotAMove NotAList InvalidLabel InvalidText InvalidNumber InvalidWay InvalidPace
        InvalidBound InvalidStep InvalidWish InvalidBases InvalidRows InvalidHouses InvalidSteps InvalidClips InvalidSeen
        InvalidMenu InvalidExchanges InvalidWishes WrongState NothingToUndo Lost NoAnswer TooLong Broken""".split(),
    "houses": ["House"],
    "moves": ["Move"],
    "comparing": ["first_unlike", "first_earlier", "distances", "first_at", "times_at"],
    "lengths": ["stretch", "first_missed", "times_missed", "first_doubled", "start_for"],
    "clocks": ["drift", "swing", "first_beyond"],
    "lists": ["Cutlist"],
    "telling": ["fitting", "told_surely", "best_look"],
    "mends": ["shown_against", "mending"],
    "rooms": ["Room"],
    "checker": ["accepts"],
    "certificates": ["certify_alike", "certify_within", "certify_stretch", "certify_missed", "certify_doubled"],
    "console": ["Console"],
}


def sources():
    return {path.relative_to(PACKAGE).as_posix(): path.read_bytes() for path in sorted(PACKAGE.rglob("*.py"))}


TREES = {name: ast.parse(source) for name, source in sources().items()}
NODES = [(name, node) for name, tree in TREES.items() for node in ast.walk(tree)]


def functions():
    return [(name, node) for name, node in NODES if isinstance(node, ast.FunctionDef)]


class Files(unittest.TestCase):
    def test_only_python_files_with_plain_names(self):
        """L1, L14"""
        for path in PACKAGE.rglob("*"):
            if "__pycache__" not in path.parts and path.is_file():
                self.assertRegex(path.name, r"^[a-z0-9_]+\.py$")
                self.assertTrue((path.parent / "__init__.py").exists())

    def test_characters(self):
        """L10, L14"""
        for name, source in sources().items():
            with self.subTest(file=name):
                self.assertTrue(all(byte == 10 or 32 <= byte <= 126 for byte in source))

    def test_sizes(self):
        """L10"""
        for name, source in sources().items():
            lines = source.decode("ascii").split("\n")
            self.assertLessEqual(len(lines), 399, name)
            self.assertLessEqual(max(map(len, lines)), 120, name)
        for name, node in functions():
            self.assertLessEqual(node.end_lineno - node.lineno + 1, 40, f"{name} {node.name}")

    def test_no_warnings(self):
        """L27"""
        with warnings.catch_warnings():
            warnings.simplefilter("error")
            for name, source in sources().items():
                compile(source, name, "exec")


class Imports(unittest.TestCase):
    def test_from_the_package_and_a_few_others(self):
        """L2, L16"""
        for name, node in NODES:
            self.assertNotIsInstance(node, ast.Import, name)
            if isinstance(node, ast.ImportFrom):
                self.assertEqual(node.level, 0, name)
                for alias in node.names:
                    self.assertIsNone(alias.asname, name)
                    if node.module in LIBRARY:
                        self.assertIn(alias.name, LIBRARY[node.module])
                    else:
                        self.assert_defined_there(node.module, alias.name)

    def assert_defined_there(self, module, name):
        top, _, file = module.partition(".")
        self.assertEqual(top, "labelmoves")
        self.assertIn(name, self.defined(file.replace(".", "/") + ".py"), module)

    def defined(self, file):
        names = []
        for node in TREES[file].body:
            if isinstance(node, (ast.FunctionDef, ast.ClassDef)):
                names.append(node.name)
            elif isinstance(node, ast.Assign):
                names += [target.id for target in node.targets]
        return names

    def test_no_circles(self):
        """L16"""
        needed = {name: [] for name in TREES}
        for name, node in NODES:
            if isinstance(node, ast.ImportFrom) and node.module not in LIBRARY:
                needed[name].append(node.module.partition(".")[2] + ".py")
        while needed:
            free = [name for name, others in needed.items() if not any(other in needed for other in others)]
            self.assertTrue(free, needed)
            needed = {name: others for name, others in needed.items() if name not in free}

    def test_interface_is_defined_where_it_is_listed(self):
        """L16"""
        for file, names in INTERFACE.items():
            for name in names:
                self.assertIn(name, self.defined(file + ".py"))


class Statements(unittest.TestCase):
    def test_module_level(self):
        """L3, L15"""
        for name, tree in TREES.items():
            bound = []
            for node in tree.body:
                self.assertIsInstance(node, (ast.Expr, ast.ImportFrom, ast.FunctionDef, ast.ClassDef, ast.Assign), name)
                if isinstance(node, ast.Expr):
                    self.assertIsInstance(node.value.value, str)
                elif isinstance(node, ast.ImportFrom):
                    bound += [alias.name for alias in node.names]
                elif isinstance(node, ast.Assign):
                    bound += [target.id for target in node.targets]
                    self.assertFalse([part for part in ast.walk(node.value) if isinstance(part, ast.Call)])
                else:
                    bound.append(node.name)
            self.assertEqual(len(bound), len(set(bound)), name)

    def test_kinds_of_statements(self):
        """L6"""
        for name, node in NODES:
            if isinstance(node, ast.stmt):
                self.assertIsInstance(node, STATEMENTS, f"{name} {node.lineno}")

    def test_errors_are_caught_and_raised_by_name(self):
        """L19"""
        for name, node in NODES:
            if isinstance(node, ast.ExceptHandler):
                caught = node.type.elts if isinstance(node.type, ast.Tuple) else [node.type]
                for error in caught:
                    self.assertIsInstance(error, ast.Name, name)
                    self.assertNotIn(error.id, ("Exception", "ValueError", "LookupError", "IndexError", "TypeError"))
            if isinstance(node, ast.Raise) and node.exc is not None:
                self.assertIsInstance(node.exc, ast.Call, name)
                self.assertIsInstance(node.exc.func, ast.Name, name)

    def test_exits_only_assign_attributes(self):
        """L6: the rows of `__exit__`"""
        exits = [node for _, node in functions() if node.name == "__exit__"]
        self.assertEqual(len(exits), 1)
        for node in exits:
            self.assertEqual([part.arg for part in node.args.args], ["self", "kind", "value", "trace"])
            for row in node.body:
                if isinstance(row, ast.If):
                    self.assertEqual((ast.unparse(row.test), row.orelse), ("kind is not None", []))
                for part in row.body if isinstance(row, ast.If) else [row]:
                    self.assertRegex(ast.unparse(part), r"^self(\.\w+)+ = self(\.\w+)+$")

    def test_tables_at_module_level_are_only_read(self):
        """L15"""
        for name, tree in TREES.items():
            tables = [node.targets[0].id for node in tree.body if isinstance(node, ast.Assign) and isinstance(node.value, (ast.Dict, ast.List))]
            read = []
            for node in ast.walk(tree):
                if isinstance(node, ast.Subscript):
                    read.append(node.value)
                elif isinstance(node, ast.Attribute) and node.attr == "get":
                    read.append(node.value)
                elif isinstance(node, ast.Compare):
                    read += node.comparators
            for node in ast.walk(tree):
                if isinstance(node, ast.Name) and node.id in tables and isinstance(node.ctx, ast.Load):
                    self.assertIn(node, read, f"{name} {node.lineno}")

    def test_decorators_and_annotations(self):
        """L4, L5, L21"""
        for name, node in functions():
            decorators = [ast.unparse(decorator) for decorator in node.decorator_list]
            self.assertIn(decorators, ([], ["property"], ["classmethod"], ["staticmethod"]), name)
            self.assertIsNone(node.returns, name)
        for name, node in NODES:
            if isinstance(node, ast.ClassDef):
                self.assertEqual(node.decorator_list, [], name)
                self.assertLessEqual(len(node.bases), 1, name)


class Expressions(unittest.TestCase):
    def test_no_floats_and_no_division(self):
        """L7"""
        for name, node in NODES:
            self.assertNotIsInstance(node, (ast.Div, ast.Await, ast.Lambda), name)
            if isinstance(node, ast.Constant):
                self.assertNotIsInstance(node.value, (float, complex, bytes), name)

    def test_powers_have_literal_exponents(self):
        """L27"""
        for name, node in NODES:
            if isinstance(node, ast.BinOp) and isinstance(node.op, ast.Pow):
                self.assertIsInstance(node.right, ast.Constant, name)
                self.assertLessEqual(node.right.value, 64)

    def test_strings(self):
        """L27"""
        for name, node in NODES:
            if isinstance(node, ast.Constant) and isinstance(node.value, str):
                self.assertNotIn("%", node.value, name)
                self.assertNotRegex(node.value, r"^__.*__$|\._+$", name)

    def test_builtins(self):
        """L8, L15"""
        known = set(dir(__builtins__) if not isinstance(__builtins__, dict) else __builtins__)
        for name, node in NODES:
            if isinstance(node, ast.Name) and isinstance(node.ctx, ast.Load) and node.id in known:
                self.assertIn(node.id, BUILTINS, name)
            if isinstance(node, ast.Name) and isinstance(node.ctx, ast.Store):
                self.assertNotIn(node.id, known, name)
            if isinstance(node, ast.arg):
                self.assertNotIn(node.arg, known, name)

    def test_methods(self):
        """L25"""
        own = {node.name for _, node in functions()}
        for name, node in NODES:
            if isinstance(node, ast.Call) and isinstance(node.func, ast.Attribute):
                self.assertIn(node.func.attr, [*METHODS, *own], name)

    def test_any_and_all_take_lists(self):
        """L7: beside a class with `__eq__`"""
        for name, node in NODES:
            self.assertNotIsInstance(node, ast.GeneratorExp, name)

    def test_names(self):
        """L8, L12, L17"""
        for name, node in NODES:
            for field in ("id", "arg", "name", "attr"):
                word = getattr(node, field, None)
                if isinstance(word, str):
                    self.assertNotIn(word, BARRED_NAMES, name)
                    if word.startswith("__"):
                        self.assertIn(word, DOUBLE_UNDERSCORED, name)
                    else:
                        self.assertRegex(word, r"^(_?[A-Za-z][A-Za-z0-9_]*|_)$")

    def test_is_stands_beside_none_and_truths(self):
        """L20"""
        for name, node in NODES:
            if isinstance(node, ast.Compare) and any(isinstance(sign, (ast.Is, ast.IsNot)) for sign in node.ops):
                self.assertRegex(ast.unparse(node), r" is (not )?(None|True|False)$", name)

    def test_barred_words(self):
        """L12, L17"""
        barred = re.compile(r"dataclass|overload|contextmanager|_wall|_WallAttr|\b(typing|enum|namedtuple|Protocol)\b")
        for name, source in sources().items():
            self.assertIsNone(barred.search(source.decode("ascii")), name)


if __name__ == "__main__":
    unittest.main()
