"""The package keeps to the small part of Python that it is written in, as far as a look at the files can tell."""

import ast
import builtins
import pathlib
import re
import unittest

PACKAGE = pathlib.Path(__file__).resolve().parent.parent / "gluework"
FILES = sorted(path for path in PACKAGE.rglob("*") if "__pycache__" not in path.parts)

STATEMENTS = (
    ast.Assign, ast.If, ast.While, ast.For, ast.Return, ast.Break, ast.Continue, ast.Pass, ast.Raise, ast.Try, ast.Expr,
    ast.FunctionDef, ast.ClassDef, ast.ImportFrom,
)
EXPRESSIONS = (
    ast.Constant, ast.List, ast.Tuple, ast.Dict, ast.BinOp, ast.UnaryOp, ast.Compare, ast.BoolOp, ast.IfExp, ast.Call,
    ast.Attribute, ast.Subscript, ast.Slice, ast.ListComp, ast.JoinedStr, ast.FormattedValue, ast.Lambda, ast.Name,
    ast.Set,
)
OWN_NAMES = set("""
    len range enumerate zip min max sum abs sorted reversed int str bool list tuple dict set frozenset isinstance ord
    repr any all divmod Exception ValueError TypeError KeyError IndexError LookupError ZeroDivisionError
    ArithmeticError OverflowError RuntimeError NotImplementedError AttributeError StopIteration
""".split())
METHODS = set("""
    append clear copy count endswith extend find get index insert isalnum isalpha isdigit islower isspace isupper
    items join keys ljust lower lstrip partition pop remove replace reverse rfind rjust rpartition rsplit rstrip
    setdefault split splitlines startswith strip update upper values zfill bit_length
""".split())
WORDS = set("""
    type typing typing_extensions enum Enum IntEnum StrEnum Flag IntFlag Generic Protocol ABC ABCMeta namedtuple
    NamedTuple TypedDict TYPE_CHECKING abstractmethod
""".split())
# These are out as names, methods and values alone: a text may be such a word.
NO_NAMES = set("register mro elements open input version_info with_traceback add_note".split())
PARTS_OF_WORDS = ("dataclass", "overload", "contextmanager")
SPECIAL_METHODS = {"__init__", "__eq__", "__repr__", "__str__", "__len__"}
WALKED = {"zip", "enumerate", "reversed", "range"}
WALKED_METHODS = {"items", "keys", "values"}
WALKERS = {"list", "tuple", "dict", "sorted", "sum", "any", "all", "enumerate", "zip", "min", "max"}

KEYWORDS = {
    "sorted": {"key", "reverse"}, "min": {"key", "default"}, "max": {"key", "default"}, "sum": {"start"},
    "enumerate": {"start"}, "zip": {"strict"},
}
CHANGES = {"append", "clear", "extend", "insert", "pop", "remove", "reverse", "setdefault", "update"}


def parsed(path):
    return ast.parse(path.read_text(encoding="utf-8"))


def kin(tree):
    """Each node with the one above it."""
    for above in ast.walk(tree):
        for node in ast.iter_child_nodes(above):
            yield above, node


def called(node):
    """The name of a function of Python's own or of the file that a call calls, or None."""
    return node.func.id if isinstance(node, ast.Call) and isinstance(node.func, ast.Name) else None


def called_method(node):
    """The name of the method that a call calls, or None."""
    return node.func.attr if isinstance(node, ast.Call) and isinstance(node.func, ast.Attribute) else None


def changed(node):
    """The name of what a call or an assignment changes in place, or None."""
    if called_method(node) in CHANGES and isinstance(node.func.value, ast.Name):
        return node.func.value.id
    if isinstance(node, ast.Subscript) and isinstance(node.ctx, ast.Store) and isinstance(node.value, ast.Name):
        return node.value.id
    return None


def bound_in(function):
    """The names of the parameters and locals of a def."""
    names = [one.arg for one in function.args.args]
    for node in ast.walk(function):
        if isinstance(node, ast.Name) and isinstance(node.ctx, ast.Store):
            names.append(node.id)
        if isinstance(node, ast.Lambda):
            names.extend(one.arg for one in node.args.args)
    return names


def imported(tree):
    return [(row.module, one.name) for row in tree.body if isinstance(row, ast.ImportFrom) for one in row.names]


def top_names(tree):
    names = [row.name for row in tree.body if isinstance(row, (ast.FunctionDef, ast.ClassDef))]
    return names + [row.targets[0].id for row in tree.body if isinstance(row, ast.Assign)]


class Language(unittest.TestCase):
    def test_files(self):
        self.assertIn("__init__.py", [path.name for path in FILES])
        for path in FILES:
            self.assertTrue(path.is_file())
            self.assertRegex(path.name, r"^(__init__|__main__|[a-z][a-z0-9_]*)\.py$")
            self.assertNotIn(path.stem, dir(builtins))
            self.assertNotIn(path.stem, WORDS | NO_NAMES | {"test", "tests", "testing", "site", "conftest"})
            self.assertFalse(path.stem.startswith("test_"))

    def test_signs_and_sizes(self):
        for path in FILES:
            text = path.read_text(encoding="utf-8")
            rows = text.split("\n")
            self.assertRegex(text, r"\A[ -~\n]*\Z")
            self.assertLessEqual(len(rows), 400)
            self.assertLessEqual(max(len(row) for row in rows), 120)
            for node in ast.walk(parsed(path)):
                if isinstance(node, ast.FunctionDef):
                    self.assertLessEqual(node.end_lineno - node.lineno + 1, 40, node.name)

    def test_words(self):
        for path in FILES:
            text = path.read_text(encoding="utf-8")
            self.assertEqual([], [word for word in re.findall(r"\w+", text) if word in WORDS])
            self.assertEqual([], [part for part in PARTS_OF_WORDS if part in text])

    def test_names_that_are_not_used(self):
        for path in FILES:
            for node in ast.walk(parsed(path)):
                for held in ("id", "attr", "arg", "name"):
                    self.assertNotIn(getattr(node, held, None), NO_NAMES, path.name)

    def test_top_of_a_file(self):
        for path in FILES:
            tree = parsed(path)
            with self.subTest(path.name):
                self.assertIsInstance(ast.get_docstring(tree), str)
                for row in tree.body[1:]:
                    self.assertIsInstance(row, (ast.ImportFrom, ast.FunctionDef, ast.ClassDef, ast.Assign))
                    if isinstance(row, ast.Assign):
                        ast.literal_eval(row.value)
                late = [isinstance(row, ast.ImportFrom) for row in tree.body[1:]]
                self.assertEqual(sorted(late, reverse=True), late, "imports stand ahead of all else")
                names = top_names(tree) + [name for module, name in imported(tree)]
                self.assertEqual(len(set(names)), len(names))

    def test_imports(self):
        drawn = {}
        for path in FILES:
            tree = parsed(path)
            with self.subTest(path.name):
                drawn[path.stem] = []
                for row in ast.walk(tree):
                    if isinstance(row, ast.ImportFrom):
                        self.assertIn(row, tree.body)
                        self.assertEqual(0, row.level)
                for module, name in imported(tree):
                    self.assertRegex(module, r"^gluework\.[a-z_]+$")
                    source = PACKAGE / (module.split(".")[1] + ".py")
                    self.assertIn(name, top_names(parsed(source)))
                    drawn[path.stem].append(source.stem)
        self.assertEqual([], drawn["__init__"])
        while drawn:
            free = [stem for stem, sources in drawn.items() if not set(sources) & set(drawn)]
            self.assertTrue(free, "files draw from one another")
            drawn = {stem: sources for stem, sources in drawn.items() if stem not in free}

    def test_statements_and_expressions(self):
        for path in FILES:
            tree = parsed(path)
            with self.subTest(path.name):
                for above, node in kin(tree):
                    if isinstance(node, ast.stmt):
                        self.assertIsInstance(node, STATEMENTS)
                    if isinstance(node, ast.expr):
                        self.assertIsInstance(node, EXPRESSIONS)
                    if isinstance(node, ast.Expr):
                        docstring = isinstance(node.value, ast.Constant) and node is above.body[0]
                        self.assertTrue(docstring or isinstance(node.value, ast.Call), node.lineno)
                    if isinstance(node, ast.Assign):
                        self.assertEqual(1, len(node.targets))
                        self.assertNotIsInstance(node.targets[0], (ast.Tuple, ast.List))
                    if isinstance(node, (ast.For, ast.While, ast.Try)):
                        self.assertEqual([], node.orelse if not isinstance(node, ast.Try) else node.finalbody)
                    if isinstance(node, ast.ListComp):
                        self.assertEqual(1, len(node.generators))
                        self.assertLessEqual(len(node.generators[0].ifs), 1)
                    if isinstance(node, ast.Constant):
                        self.assertIn(type(node.value), (int, str, bool, type(None)))
                        self.assertFalse(isinstance(node.value, str) and "%" in node.value)
                    if isinstance(node, ast.FormattedValue):
                        self.assertIsInstance(node.value, ast.Name, node.lineno)
                        self.assertIsNone(node.format_spec)
                    self.assertNotIsInstance(node, (ast.Div, ast.MatMult, ast.Starred))

    def test_functions_and_classes(self):
        for path in FILES:
            tree = parsed(path)
            with self.subTest(path.name):
                for above, node in kin(tree):
                    if isinstance(node, ast.FunctionDef):
                        told = node.args
                        self.assertEqual([], node.decorator_list + told.posonlyargs + told.kwonlyargs)
                        self.assertIsNone(told.vararg or told.kwarg or node.returns)
                        self.assertTrue(all(one.annotation is None for one in told.args))
                        for value in told.defaults:
                            ast.literal_eval(value)
                    if isinstance(node, ast.ClassDef):
                        self.assertIs(tree, above)
                        self.assertEqual([], node.decorator_list + node.keywords)
                        self.assertLessEqual(len(node.bases), 1)
                        for row in node.body:
                            docstring = isinstance(row, ast.Expr) and isinstance(row.value, ast.Constant)
                            self.assertTrue(docstring or isinstance(row, (ast.FunctionDef, ast.Pass)))

    def test_names(self):
        for path in FILES:
            tree = parsed(path)
            with self.subTest(path.name):
                known = set(top_names(tree)) | {name for module, name in imported(tree)} | OWN_NAMES
                taken = {name for module, name in imported(tree)} | set(dir(builtins))
                taken |= {row.name for row in tree.body if isinstance(row, ast.ClassDef)}
                self.assertEqual(set(), set(top_names(tree)) & set(dir(builtins)))
                bound = set()
                for node in ast.walk(tree):
                    if isinstance(node, ast.FunctionDef):
                        bound |= set(bound_in(node))
                        self.assertTrue(node.name in SPECIAL_METHODS or re.match(r"[A-Za-z]", node.name))
                self.assertEqual(set(), bound & taken)
                names = bound | set(top_names(tree))
                self.assertEqual([], [name for name in names if not re.match(r"[A-Za-z]\w*$", name)])
                for node in ast.walk(tree):
                    if isinstance(node, ast.Name):
                        self.assertIn(node.id, known | bound)

    def test_is_stands_beside_none_true_and_false(self):
        for path in FILES:
            tree = parsed(path)
            with self.subTest(path.name):
                for node in ast.walk(tree):
                    if isinstance(node, ast.Compare) and any(isinstance(op, (ast.Is, ast.IsNot)) for op in node.ops):
                        self.assertTrue(any(
                            isinstance(side, ast.Constant) and side.value in (None, True, False)
                            for side in [node.left] + node.comparators
                        ))

    def test_methods(self):
        own = set()
        for path in FILES:
            tree = parsed(path)
            with self.subTest(path.name):
                own |= {row.name for node in tree.body if isinstance(node, ast.ClassDef) for row in node.body
                        if isinstance(row, ast.FunctionDef)}
        for path in FILES:
            tree = parsed(path)
            with self.subTest(path.name):
                for node in ast.walk(tree):
                    if called_method(node):
                        self.assertIn(node.func.attr, METHODS | own)
                    if isinstance(node, ast.Attribute):
                        self.assertFalse(node.attr.startswith("_") and node.attr not in SPECIAL_METHODS)
                        self.assertNotIn(node.attr, ("format", "format_map", "mro"))

    def test_no_name_is_a_method_here_and_a_value_there(self):
        methods = []
        values = set()
        for path in FILES:
            for node in ast.walk(parsed(path)):
                if isinstance(node, ast.ClassDef):
                    own = [row.name for row in node.body if isinstance(row, ast.FunctionDef)]
                    self.assertEqual(len(set(own)), len(own))
                    methods.extend(own)
                if isinstance(node, ast.Attribute) and isinstance(node.ctx, ast.Store):
                    self.assertIsInstance(node.value, ast.Name)
                    values.add(node.attr)
        self.assertEqual(set(), values & set(methods))
        python_s = {name for kind in (str, int, list, dict, set, bytes, tuple) for name in dir(kind)}
        self.assertEqual(set(), values & python_s)
        self.assertEqual(set(), (set(methods) - SPECIAL_METHODS) & python_s)

    def test_walked_on_the_spot(self):
        for path in FILES:
            tree = parsed(path)
            with self.subTest(path.name):
                for above, node in kin(tree):
                    if called(node) in WALKED or called_method(node) in WALKED_METHODS:
                        in_loop = isinstance(above, (ast.For, ast.comprehension)) and above.iter is node
                        first = called(above) in WALKERS and above.args[0] is node
                        self.assertTrue(in_loop or first, node.lineno)

    def test_sets_stand_within_what_asks_them(self):
        for path in FILES:
            tree = parsed(path)
            with self.subTest(path.name):
                for above, node in kin(tree):
                    if called(node) in ("set", "frozenset"):
                        asks = called(above) in ("len", "sorted") or isinstance(above, (ast.Compare, ast.BinOp))
                        self.assertTrue(asks, node.lineno)

    def test_errors_are_raised_on_the_spot_and_taken_by_name(self):
        for path in FILES:
            tree = parsed(path)
            own = {name for module, name in imported(tree) if module == "gluework.errors"}
            with self.subTest(path.name):
                for node in ast.walk(tree):
                    if isinstance(node, ast.Raise):
                        self.assertIn(called(node.exc), own)
                        self.assertIsNone(node.cause)
                    if isinstance(node, ast.ExceptHandler):
                        self.assertIsInstance(node.type, ast.Name)
                        self.assertIn(node.type.id, own | {"KeyError", "ZeroDivisionError", "StopIteration"})

    def test_keywords(self):
        for path in FILES:
            for node in ast.walk(parsed(path)):
                if isinstance(node, ast.Call):
                    told = {one.arg for one in node.keywords}
                    name = called(node)
                    if called_method(node) or name in OWN_NAMES:
                        self.assertLessEqual(told, KEYWORDS.get(name, set()), (path.name, node.lineno))

    def test_methods_are_called_where_they_stand(self):
        for path in FILES:
            for above, node in kin(parsed(path)):
                if isinstance(node, ast.Attribute) and node.attr in METHODS:
                    self.assertTrue(isinstance(above, ast.Call) and above.func is node, (path.name, node.lineno))

    def test_python_s_own_names_are_called_and_not_kept(self):
        for path in FILES:
            for above, node in kin(parsed(path)):
                if isinstance(node, ast.Name) and node.id in OWN_NAMES and not node.id.endswith(("Error", "Exception")):
                    called_there = isinstance(above, ast.Call) and above.func is node
                    asked = called(above) == "isinstance" or isinstance(above, (ast.Tuple, ast.keyword))
                    self.assertTrue(called_there or asked, (path.name, node.lineno))

    def test_what_a_loop_walks_is_not_changed_in_it(self):
        for path in FILES:
            for loop in ast.walk(parsed(path)):
                if isinstance(loop, ast.For):
                    walked = {node.id for node in ast.walk(loop.iter) if isinstance(node, ast.Name)}
                    for node in [node for row in loop.body for node in ast.walk(row)]:
                        self.assertNotIn(changed(node), walked, (path.name, loop.lineno))

    def test_names_at_a_file_s_top_are_given_plain_values_that_are_only_read(self):
        for path in FILES:
            tree = parsed(path)
            kept = {row.targets[0].id: ast.literal_eval(row.value) for row in tree.body if isinstance(row, ast.Assign)}
            for name, value in kept.items():
                self.assertIsInstance(value, (int, str, bool, tuple, dict), (path.name, name))
                for held in value.values() if isinstance(value, dict) else value if isinstance(value, tuple) else ():
                    hash(held)
            for above, node in kin(tree):
                if isinstance(node, ast.Name) and isinstance(kept.get(node.id), dict) and above not in tree.body:
                    indexed = isinstance(above, ast.Subscript) and isinstance(above.ctx, ast.Load)
                    asked = isinstance(above, ast.Compare) and isinstance(above.ops[0], (ast.In, ast.NotIn))
                    self.assertTrue(indexed or asked, (path.name, node.lineno))

    def test_powers_lambdas_and_written_sets_are_done_without(self):
        # Each is allowed in narrow forms alone, which nothing here needs.
        for path in FILES:
            for node in ast.walk(parsed(path)):
                self.assertNotIsInstance(node, (ast.Pow, ast.Lambda, ast.Set), path.name)


if __name__ == "__main__":
    unittest.main()
