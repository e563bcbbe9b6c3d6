"""The rules for the files of the package, as far as the shape of the code shows them."""

import ast
import builtins
import pathlib
import re
import unittest

PACKAGE = pathlib.Path(__file__).resolve().parent.parent / "carpets"
FILES = sorted(path for path in PACKAGE.rglob("*") if "__pycache__" not in path.parts)

BUILTINS = set(
    "len range enumerate zip min max sum abs sorted reversed int str bool bytes list tuple dict set frozenset "
    "isinstance ord repr any all divmod pow getattr hasattr setattr iter next map super property staticmethod classmethod "
    "Exception ValueError TypeError KeyError IndexError LookupError ZeroDivisionError ArithmeticError OverflowError "
    "RuntimeError NotImplementedError AttributeError StopIteration NotImplemented".split()
)

# A doctest that shows a value leaves it among the builtins, under the name _.
ALL_BUILTINS = set(vars(builtins)) - {"_"}

LIBRARY = {
    "heapq": {"heappush", "heappop", "heapify", "heapreplace", "heappushpop"},
    "math": {"gcd", "lcm", "isqrt", "comb", "perm", "factorial"},
    "itertools": {
        "product", "combinations", "permutations", "chain", "accumulate", "pairwise", "islice", "zip_longest",
    },
    "collections": {"defaultdict"},
}

BARRED_NODES = (
    ast.Import, ast.Global, ast.AsyncFunctionDef, ast.AsyncFor, ast.AsyncWith, ast.Await, ast.Div, ast.MatMult,
    ast.AnnAssign,
)

BARRED_WORDS = set(
    "typing typing_extensions enum Enum IntEnum StrEnum Flag IntFlag Generic Protocol ABC ABCMeta namedtuple "
    "NamedTuple TypedDict TYPE_CHECKING abstractmethod _wall _WallAttr".split()
)

BARRED_NAMES = set("register mro elements open input law version_info with_traceback add_note type".split())

# The methods of strings, numbers, lists, dicts and sets that the package may call.
BUILTIN_METHODS = set(
    "append clear copy count endswith extend find get index insert isalnum isalpha isdigit islower isspace isupper "
    "items join keys ljust lower lstrip partition pop remove replace reverse rfind rjust rpartition rsplit rstrip "
    "setdefault split splitlines startswith strip update upper values zfill bit_length add discard".split()
)

# What is iterated on the spot, but not in set(..).
VIEWS = {"zip", "enumerate", "reversed", "range", "items", "keys", "values"}

ARITHMETIC = "add sub mul floordiv mod pow and or xor lshift rshift".split()
SPECIAL_METHODS = {
    f"__{name}__"
    for name in "init eq repr str len enter exit call iter lt le gt ge ne neg pos invert abs bool contains getitem "
    "setitem".split() + [sign + name for sign in ("", "r", "i") for name in ARITHMETIC]
}

# These are run when they are called or iterated over, not by a sign or by reading an attribute.
NO_OPERATORS = {"__init__", "__iter__", "__call__", "__enter__", "__exit__"}


def parsed(path):
    return ast.parse(path.read_text(encoding="utf-8"))


def nodes(kind):
    """All nodes of a kind in the package, each with a text that tells where it stands."""
    for path in FILES:
        for node in ast.walk(parsed(path)):
            if isinstance(node, kind):
                yield f"{path.name}:{getattr(node, 'lineno', 0)}", node


def bound_names(node):
    """The names that a node gives a meaning to."""
    if isinstance(node, ast.Name):
        return [node.id] if isinstance(node.ctx, ast.Store) else []
    if isinstance(node, ast.arg):
        return [node.arg]
    if isinstance(node, (ast.FunctionDef, ast.ClassDef)):
        return [node.name]
    if isinstance(node, ast.ImportFrom):
        return [alias.asname or alias.name for alias in node.names]
    return []


def called(node):
    """The name of the function or the method that a node calls, or None."""
    if not isinstance(node, ast.Call):
        return None
    return node.func.id if isinstance(node.func, ast.Name) else getattr(node.func, "attr", None)


def is_property(node):
    """Whether a node is the function of a property."""
    return isinstance(node, ast.FunctionDef) and "property" in map(ast.unparse, node.decorator_list)


def yields(node):
    """Whether a function is a generator."""
    return any(isinstance(inner, (ast.Yield, ast.YieldFrom)) for inner in ast.walk(node))


def functions_by_name():
    """For each name, the functions and methods that a call of this name may run; for a class, its __init__."""
    found = {}
    for _, node in nodes(ast.FunctionDef):
        found.setdefault(node.name, []).append(node)
    for _, node in nodes(ast.ClassDef):
        made = [inner for inner in node.body if isinstance(inner, ast.FunctionDef) and inner.name == "__init__"]
        found.setdefault(node.name, []).extend(made)
    return found


def run_by(function):
    """All functions that a function may run, itself included, as far as names tell."""
    named = functions_by_name()
    waiting = [function]
    found = {}
    while waiting:
        node = waiting.pop()
        if id(node) not in found:
            found[id(node)] = node
            for inner in ast.walk(node):
                waiting.extend(named.get(called(inner), []))
    return list(found.values())


class Files(unittest.TestCase):
    def test_there_are_only_plain_files(self):
        for path in FILES:
            self.assertTrue(path.is_file() and re.fullmatch(r"[a-z][a-z0-9_]*\.py|__init__\.py", path.name), path)
        self.assertIn(PACKAGE / "__init__.py", FILES)
        self.assertLessEqual(len(FILES), 100)

    def test_lines_and_characters(self):
        for path in FILES:
            text = path.read_text(encoding="utf-8")
            self.assertTrue(re.fullmatch(r"[ -~\n]*", text), path)
            lines = text.split("\n")
            self.assertLessEqual(len(lines), 399, path)
            self.assertLessEqual(max(map(len, lines)), 120, path)

    def test_functions_are_short(self):
        for where, node in nodes(ast.FunctionDef):
            self.assertLessEqual(node.end_lineno - node.lineno + 1, 40, where)

    def test_barred_words(self):
        for path in FILES:
            words = set(re.findall(r"\w+", path.read_text(encoding="utf-8")))
            self.assertEqual(words & BARRED_WORDS, set(), path)


class Imports(unittest.TestCase):
    def test_only_the_package_and_the_library(self):
        for where, node in nodes(ast.ImportFrom):
            self.assertEqual(node.level, 0, where)
            for alias in node.names:
                self.assertIsNone(alias.asname, where)
                if node.module in LIBRARY:
                    self.assertIn(alias.name, LIBRARY[node.module], where)
                else:
                    self.assertTrue(self.defines(node.module, alias.name), where)

    def defines(self, module, name):
        package, file = module.split(".")
        defined = [inner for node in parsed(PACKAGE / f"{file}.py").body for inner in self.module_names(node)]
        return package == "carpets" and name in defined

    def module_names(self, node):
        if isinstance(node, ast.Assign):
            return [target.id for target in node.targets]
        return bound_names(node) if isinstance(node, (ast.FunctionDef, ast.ClassDef)) else []

    def test_imports_stand_at_the_top(self):
        for path in FILES:
            body = [node for node in parsed(path).body if not isinstance(node, ast.Expr)]
            kinds = [isinstance(node, ast.ImportFrom) for node in body]
            self.assertEqual(kinds, sorted(kinds, reverse=True), path)

    def test_no_two_files_import_from_each_other(self):
        uses = {}
        for path in FILES:
            modules = [node.module for node in parsed(path).body if isinstance(node, ast.ImportFrom)]
            uses[path.stem] = {module.split(".")[1] for module in modules if module.startswith("carpets.")}
        while uses:
            free = [name for name in uses if not uses[name] & set(uses)]
            self.assertTrue(free, uses)
            for name in free:
                del uses[name]


class Names(unittest.TestCase):
    def test_only_listed_builtins_are_used(self):
        for where, node in nodes(ast.Name):
            if node.id in ALL_BUILTINS:
                self.assertIn(node.id, BUILTINS, where)

    def test_no_name_is_that_of_a_builtin(self):
        for where, node in nodes(ast.AST):
            for name in bound_names(node):
                self.assertNotIn(name, ALL_BUILTINS, where)
                self.assertNotIn(name, BARRED_NAMES, where)

    def test_no_parameter_or_variable_is_named_like_a_class_or_an_import(self):
        for path in FILES:
            tree = parsed(path)
            taken = [node for node in tree.body if isinstance(node, (ast.ClassDef, ast.ImportFrom))]
            names = {name for node in taken for name in bound_names(node)}
            for node in ast.walk(tree):
                if isinstance(node, (ast.Name, ast.arg)):
                    self.assertFalse(names & set(bound_names(node)), (path, node.lineno))

    def test_only_listed_special_methods(self):
        for where, node in nodes(ast.FunctionDef):
            if node.name.startswith("__"):
                self.assertIn(node.name, SPECIAL_METHODS, where)

    def test_a_class_with_brackets_says_how_it_is_iterated_over(self):
        for where, node in nodes(ast.ClassDef):
            methods = {inner.name for inner in node.body if isinstance(inner, ast.FunctionDef)}
            self.assertTrue("__getitem__" not in methods or "__iter__" in methods, where)

    def test_a_property_shares_its_name_with_no_function(self):
        functions = [node for _, node in nodes(ast.FunctionDef)]
        properties = {node.name for node in functions if is_property(node)}
        for node in functions:
            if node.name in properties:
                self.assertEqual([ast.unparse(one) for one in node.decorator_list], ["property"], node.name)
        self.assertFalse(properties & BUILTIN_METHODS)

    def test_operators_call_nothing_that_they_are_passed(self):
        for where, node in nodes(ast.FunctionDef):
            if node.name in SPECIAL_METHODS:
                passed = {parameter.arg for parameter in node.args.args}
                for inner in ast.walk(node):
                    if isinstance(inner, ast.Call) and isinstance(inner.func, ast.Name):
                        self.assertNotIn(inner.func.id, passed, where)

    def test_a_generator_shares_its_name_with_nothing(self):
        functions = [node for _, node in nodes(ast.FunctionDef)]
        for name in [node.name for node in functions if yields(node)]:
            self.assertEqual([node.name for node in functions].count(name), 1, name)

    def test_no_operator_and_no_property_runs_a_generator(self):
        operators = SPECIAL_METHODS - NO_OPERATORS
        roots = [(where, node) for where, node in nodes(ast.FunctionDef) if node.name in operators or is_property(node)]
        self.assertGreater(len(roots), 20)
        for where, node in roots:
            for inner in run_by(node):
                self.assertFalse(yields(inner), (where, node.name, inner.name))


class Statements(unittest.TestCase):
    def test_barred_statements(self):
        for where, node in nodes(BARRED_NODES):
            self.fail(f"{where}: {node.__class__.__name__}")

    def test_no_annotations(self):
        for where, node in nodes(ast.FunctionDef):
            self.assertIsNone(node.returns, where)
        for where, node in nodes(ast.arg):
            self.assertIsNone(node.annotation, where)

    def test_decorators(self):
        for where, node in nodes(ast.FunctionDef):
            for decorator in node.decorator_list:
                self.assertIn(ast.unparse(decorator).split(".")[-1], (
                    "property", "setter", "staticmethod", "classmethod"), where)
        for where, node in nodes(ast.ClassDef):
            self.assertEqual(node.decorator_list, [], where)

    def test_is_stands_beside_constants_only(self):
        for where, node in nodes(ast.Compare):
            for sign, side in zip(node.ops, node.comparators):
                if isinstance(sign, (ast.Is, ast.IsNot)):
                    self.assertIsInstance(side, ast.Constant, where)

    def test_no_generator_expressions(self):
        for where, node in nodes(ast.GeneratorExp):
            self.fail(where)

    def test_sets_are_measured_or_sorted_at_once(self):
        for where, node in nodes(ast.AST):
            for child in ast.iter_child_nodes(node):
                is_call = isinstance(child, ast.Call) and called(child) == "set"
                if is_call:
                    self.assertNotIn(called(child.args[0]), VIEWS, where)
                if is_call or isinstance(child, (ast.Set, ast.SetComp)):
                    self.assertIn(called(node), ("sorted", "len"), where)
                    self.assertEqual(node.keywords, [], where)

    def test_only_listed_methods_of_builtin_values(self):
        own = {node.name for _, node in nodes(ast.FunctionDef)}
        for where, node in nodes(ast.Call):
            if isinstance(node.func, ast.Attribute):
                self.assertIn(node.func.attr, own | BUILTIN_METHODS, where)

    def test_plain_names_behind_stars_in_calls(self):
        for where, node in nodes(ast.Call):
            for given in node.args:
                if isinstance(given, ast.Starred):
                    self.assertIsInstance(given.value, ast.Name, where)

    def test_no_floats_and_no_percent_signs(self):
        for where, node in nodes(ast.Constant):
            self.assertNotIsInstance(node.value, (float, complex), where)
            if isinstance(node.value, str):
                self.assertNotIn("%", node.value, where)

    def test_nothing_but_definitions_at_module_level(self):
        for path in FILES:
            for node in parsed(path).body:
                kinds = (ast.FunctionDef, ast.ClassDef, ast.ImportFrom, ast.Assign)
                is_docstring = isinstance(node, ast.Expr) and isinstance(node.value, ast.Constant)
                self.assertTrue(isinstance(node, kinds) or is_docstring, (path, node.lineno))


if __name__ == "__main__":
    unittest.main()
