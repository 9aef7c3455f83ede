"""The names of the interface, and the form of the code as far as it is easily told."""

import ast
import builtins
import inspect
import pathlib
import unittest

import piecetrees
from piecetrees import (
    abouts, arrows, boards, firm, formulas, growing, knots, looks, numbers, pieces, renames, rows, shells, texts, together, trees, triangles,
    turnings,
)

FOLDER = pathlib.Path(piecetrees.__file__).parent
INTERFACE = {
    looks: {
        "table_error": ["value"], "is_even": ["table"], "is_web": ["table"], "is_order": ["table"],
        "is_course": ["table"], "part": ["table", "lot"], "turned": ["table"], "renamed": ["table", "naming"],
        "painted": ["table", "paints"], "put_in": ["table", "thing", "other"],
    },
    texts: {"table_text": ["table"], "parse_table": ["value"]},
    pieces: {
        "is_piece": ["table", "lot"], "telling": ["table", "lot"], "least_piece": ["table", "lot"],
        "growing": ["table", "lot"], "pieces": ["table"], "between": ["table", "lot", "other"],
        "quotient": ["table", "lots"],
    },
    trees: {
        "tree_of": ["table"], "table_of": ["size", "tree"], "tree_error": ["size", "value"],
        "piece_count": ["size", "tree"], "tree_text": ["size", "tree"], "parse_tree": ["size", "value"],
    },
    knots: {
        "strong": ["table"], "knots": ["table"], "knot_of": ["table", "lot"], "pieces_of": ["size", "tree"],
        "piece_at": ["size", "tree", "place"], "place_of": ["size", "tree", "lot"],
    },
    firm: {
        "is_firm": ["table"], "firm_lots": ["table"], "first_firm": ["table"], "is_critical": ["table"],
        "half_web": ["size"], "course_of": ["word", "size"], "critical_word": ["table"],
    },
    growing: {
        "stand": ["table", "lot", "thing"], "next_firm": ["table", "lot"], "grown": ["table", "lot"],
        "grown_holds": ["table", "lot", "value"], "spared": ["table"], "leavable": ["table"], "leavable_pair": ["table"],
    },
    arrows: {
        "forced": ["web", "arrow"], "arrow_classes": ["web"], "chain": ["web", "arrow", "other"], "clash": ["web"],
        "class_knot": ["web", "arrow"],
    },
    turnings: {
        "turning": ["web"], "turning_error": ["web", "value"], "turning_count": ["web"], "turnings": ["web"],
        "nth_turning": ["web", "place"], "turning_place": ["web", "order"], "loose": ["web", "order"],
        "class_turned": ["web", "order", "arrow"], "classes_apart": ["web", "order", "other"],
        "turning_way": ["web", "order", "other"], "turning_way_holds": ["web", "order", "other", "value"],
    },
    rows: {
        "is_row": ["size", "value"], "rest": ["web"], "drawn": ["row", "other"], "orders_of": ["row", "other"],
        "rows_of": ["order", "other"], "draw": ["web"], "draw_holds": ["web", "value"], "draw_paper": ["web"],
        "draw_count": ["web"], "nth_draw": ["web", "place"], "draw_place": ["web", "row", "other"],
        "twisted": ["row", "other"],
    },
    abouts: {
        "same_pairs": ["order", "other"], "about": ["order", "lot"], "about_way": ["order", "other"],
        "about_way_holds": ["order", "other", "value"],
    },
    formulas: {
        "formula_error": ["size", "value"], "table_told": ["size", "formula"], "has_formula": ["table"],
        "is_normal": ["size", "formula"], "formula_of": ["table"], "made_normal": ["size", "formula"], "formula_count": ["table"],
        "formula_text": ["size", "formula"], "parse_formula": ["size", "value"],
    },
    numbers: {
        "heaviest": ["table", "look", "weights"], "fewest_lots": ["table", "look"], "fewest_holds": ["table", "look", "value"],
        "strewn_lot": ["table", "look"], "is_keeping": ["table", "value"], "keeping_count": ["table"], "keeping_at": ["table", "place"],
        "keeping_place": ["table", "row"], "mean_place": ["table", "thing"], "share_ahead": ["table", "one", "other"],
        "chain_lot": ["table"], "layers": ["table"], "beside_lot": ["table"], "fewest_chains": ["table"], "chains_hold": ["table", "value"],
    },
    renames: {
        "renaming": ["table", "other"], "alike_count": ["table"], "round_naming": ["table"], "is_same": ["table", "naming"],
        "same_count": ["table"], "sames": ["table"], "same_at": ["table", "place"], "same_place": ["table", "naming"],
        "behind": ["naming", "other"], "kinds": ["table"], "makers": ["table"], "makers_hold": ["table", "value"], "normal": ["table"],
    },
    triangles: {
        "looks_of": ["table"], "triangle": ["table"], "triangle_count": ["table"], "apart_look": ["table"], "built": ["table"],
        "built_holds": ["table", "value"], "mend_count": ["table"], "mended_even": ["table"],
    },
    together: {
        "together": ["tables"], "both": ["table", "other"], "tree_of_both": ["size", "tree", "other"], "lone": ["table", "other"],
        "parting_piece": ["table", "other"], "shared_rounds": ["table", "other", "lot"], "line_of": ["row"], "rows_table": ["size", "rows"],
        "stretches": ["size", "rows"], "is_stretch": ["rows", "lot"], "pair_classes": ["size", "lots", "even"],
        "mend_cost": ["table", "lots", "even"], "mended": ["table", "lots", "even"], "mended_holds": ["table", "lots", "even", "value"],
    },
}
CLASSES = {
    (boards, "Board"): {
        "__init__": ["value"], "look": ["thing", "other"], "piece": ["lot"], "knot": ["lot"], "add": ["looks", "back"], "drop": ["thing"],
        "paint": ["thing", "other", "look"], "turn": ["lot"], "rename": ["naming"], "put": ["thing", "table"], "batch": ["edits"],
        "undo": [], "redo": [], "at": ["version"], "news": [], "copy": [], "attempt": ["work"],
    },
    (boards, "KeptBoard"): {"__init__": ["value"], "copy": []},
    (shells, "Shell"): {"__init__": [], "say": ["line"]},
}
BUILTINS = set(
    "len range enumerate zip min max sum abs sorted reversed int str bool list tuple dict set frozenset isinstance "
    "ord repr any all divmod pow getattr hasattr setattr iter next map Exception ValueError TypeError KeyError "
    "IndexError LookupError ZeroDivisionError ArithmeticError OverflowError RuntimeError NotImplementedError "
    "AttributeError StopIteration NotImplemented bytes property super".split()
)
METHODS = set(
    "append clear copy count endswith extend find get index insert isalnum isalpha isdigit islower isspace isupper items "
    "join keys ljust lower lstrip partition pop remove replace reverse rfind rjust rpartition rsplit rstrip setdefault "
    "split splitlines startswith strip update upper values zfill bit_length isascii removeprefix removesuffix".split()
)
# Such a call is iterated at once: by a loop, or by one of these.
AT_ONCE = set("range zip enumerate reversed".split())
VIEWS = set("items keys values".split())
ITERATING = set("list tuple dict sorted sum any all enumerate zip min max reversed len".split())
BARRED_NODES = (
    ast.Global, ast.AsyncFunctionDef, ast.AsyncFor, ast.AsyncWith, ast.Await, ast.TryStar, ast.Div, ast.MatMult, ast.Import,
    ast.GeneratorExp, ast.Set, ast.Yield, ast.YieldFrom, ast.NamedExpr,
)


def bound_names(tree):
    """All names that a file gives a meaning to."""
    for node in ast.walk(tree):
        if isinstance(node, (ast.FunctionDef, ast.ClassDef)):
            yield node.name
        elif isinstance(node, ast.Name) and isinstance(node.ctx, ast.Store):
            yield node.id
        elif isinstance(node, ast.arg):
            yield node.arg
        elif isinstance(node, ast.ImportFrom):
            yield from (alias.asname or alias.name for alias in node.names)


def called(node):
    """The name of a function or a method that is called; None for another node."""
    if not isinstance(node, ast.Call):
        return None
    return node.func.id if isinstance(node.func, ast.Name) else node.func.attr


def is_at_once(parent, node):
    """Whether what stands around a range and its kin iterates over it."""
    if isinstance(parent, (ast.For, ast.comprehension)):
        return parent.iter == node
    return called(parent) in ITERATING or isinstance(parent, ast.Compare)


class Interface(unittest.TestCase):
    def test_names_and_arguments(self):
        for module, functions in INTERFACE.items():
            for name, arguments in functions.items():
                with self.subTest(module=module.__name__, name=name):
                    function = getattr(module, name)
                    self.assertTrue(inspect.isfunction(function))
                    self.assertEqual(function.__module__, module.__name__)
                    self.assertEqual(list(inspect.signature(function).parameters), arguments)

    def test_classes(self):
        for (module, name), methods in CLASSES.items():
            told = getattr(module, name)
            self.assertEqual((inspect.isclass(told), told.__module__), (True, module.__name__))
            for method, arguments in methods.items():
                with self.subTest(name=name, method=method):
                    self.assertEqual(list(inspect.signature(vars(told)[method]).parameters), ["self", *arguments])


class Form(unittest.TestCase):
    def setUp(self):
        self.texts = {path.stem: path.read_bytes().decode("ascii") for path in sorted(FOLDER.glob("*.py"))}
        self.trees = {name: ast.parse(text) for name, text in self.texts.items()}

    def nodes(self):
        return [(name, node) for name, tree in self.trees.items() for node in ast.walk(tree)]

    def test_files(self):
        inside = [path for path in FOLDER.iterdir() if path.name != "__pycache__"]
        self.assertEqual([path.name for path in inside if path.suffix != ".py"], [])
        self.assertIn("__init__", self.texts)
        for name, text in self.texts.items():
            with self.subTest(file=name):
                self.assertTrue(all(sign == "\n" or " " <= sign <= "~" for sign in text))
                self.assertLessEqual(len(text.split("\n")) - 1, 399)
                self.assertLessEqual(max(len(line) for line in text.split("\n")), 120)

    def test_functions_are_short(self):
        for name, node in self.nodes():
            if isinstance(node, ast.FunctionDef):
                self.assertLessEqual(node.end_lineno - node.lineno + 1, 40, (name, node.name))

    def test_module_level(self):
        for name, tree in self.trees.items():
            for node in tree.body:
                self.assertIsInstance(node, (ast.Expr, ast.ImportFrom, ast.FunctionDef, ast.ClassDef, ast.Assign), name)
                if isinstance(node, ast.Expr):
                    self.assertIsInstance(node.value, ast.Constant, name)

    def test_statements(self):
        for name, node in self.nodes():
            self.assertNotIsInstance(node, BARRED_NODES, name)
            if isinstance(node, ast.Constant):
                self.assertNotIsInstance(node.value, (float, complex), name)
            if isinstance(node, ast.Constant) and isinstance(node.value, str):
                self.assertNotIn(chr(37), node.value, name)

    def test_imports(self):
        for name, node in self.nodes():
            if isinstance(node, ast.ImportFrom) and node.module.split(".")[0] == "piecetrees":
                self.assertEqual((node.level, node.module.count(".")), (0, 1), name)
                here = self.trees[node.module.split(".")[1]].body
                defined = [item.name for item in here if isinstance(item, (ast.FunctionDef, ast.ClassDef))]
                defined += [target.id for item in here if isinstance(item, ast.Assign) for target in item.targets]
                for alias in node.names:
                    self.assertIn(alias.name, defined, name)
            elif isinstance(node, ast.ImportFrom):
                self.assertIn(node.module, ("heapq", "math", "itertools", "collections"), name)

    def test_builtins(self):
        every = set(dir(builtins))
        for name, tree in self.trees.items():
            bound = set(bound_names(tree))
            self.assertEqual(bound & every, set(), name)
            bound |= {node.name for node in ast.walk(tree) if isinstance(node, ast.ExceptHandler)}
            read = {node.id for node in ast.walk(tree) if isinstance(node, ast.Name)} - bound
            self.assertEqual(read - BUILTINS, set(), name)

    def test_methods(self):
        own = self.attributes() | self.methods()
        for name, node in self.nodes():
            if isinstance(node, ast.Attribute):
                self.assertIn(node.attr, METHODS | own | {"__class__", "__name__", "__init__"}, name)
                self.assertEqual(node.attr == "__name__", ast.unparse(node).endswith(".__class__.__name__"), name)

    def attributes(self):
        """The attributes that classes of the package give their objects."""
        return {node.attr for _, node in self.nodes() if isinstance(node, ast.Attribute) and isinstance(node.ctx, ast.Store)}

    def methods(self):
        """The methods and properties of the classes of the package."""
        classes = [node for _, node in self.nodes() if isinstance(node, ast.ClassDef)]
        return {item.name for node in classes for item in node.body if isinstance(item, ast.FunctionDef)}

    def test_names_of_methods_and_attributes(self):
        self.assertEqual(self.methods() & self.attributes(), set())
        self.assertEqual({name for name in self.methods() & METHODS}, {"copy"})
        told = {"__init__", "__str__", "__len__", "__getitem__", "__contains__", "__iter__", "__eq__"}
        self.assertEqual({name for name in self.methods() if name.startswith("__")}, told)

    def test_words_that_do_not_occur(self):
        words = "typing enum Enum Generic Protocol ABC namedtuple dataclass overload contextmanager _wall _WallAttr metaclass= (type) Meta".split()
        for name, text in self.texts.items():
            self.assertEqual([word for word in words if word in text], [], name)

    def test_names_of_imports(self):
        for name, tree in self.trees.items():
            told = [alias.name for node in tree.body if isinstance(node, ast.ImportFrom) for alias in node.names]
            told += [node.name for node in tree.body if isinstance(node, ast.ClassDef)]
            self.assertEqual(len(told), len(set(told)), name)
            bound = list(bound_names(tree))
            self.assertEqual([one for one in told if bound.count(one) > 1], [], name)

    def test_no_import_is_unused(self):
        for name, tree in self.trees.items():
            told = [alias.name for node in tree.body if isinstance(node, ast.ImportFrom) for alias in node.names]
            read = {node.id for node in ast.walk(tree) if isinstance(node, ast.Name) and isinstance(node.ctx, ast.Load)}
            self.assertEqual([one for one in told if one not in read], [], name)

    def test_iterated_at_once(self):
        for name, node in self.nodes():
            for child in ast.iter_child_nodes(node):
                if called(child) in AT_ONCE and isinstance(child.func, ast.Name):
                    self.assertTrue(is_at_once(node, child), (name, child.lineno))
                if called(child) in VIEWS and isinstance(child.func, ast.Attribute):
                    self.assertTrue(is_at_once(node, child), (name, child.lineno))

    def test_sets(self):
        for name, node in self.nodes():
            for child in ast.iter_child_nodes(node):
                if called(child) == "set" or isinstance(child, ast.SetComp):
                    told = called(node) in ("sorted", "len") or isinstance(node, ast.Compare)
                    self.assertTrue(told, (name, child.lineno))
