"""The rules of ../shared/LANGUAGE.md that can be seen from a file's text or tree."""

import ast
import builtins
import re
import unittest
from pathlib import Path

PACKAGE = Path(__file__).resolve().parent.parent / "wordswap"
TREES = {path.name: ast.parse(path.read_text(encoding="utf-8")) for path in sorted(PACKAGE.glob("*.py"))}

# L4 to L7
NODES = """Module FunctionDef ClassDef ImportFrom alias arguments arg Assign AugAssign If While For Return Break Continue
    Pass Raise Try ExceptHandler Expr Call Attribute Subscript Slice Name Load Store Constant List Tuple Dict Lambda
    ListComp comprehension BinOp Add Sub Mult FloorDiv Mod Pow BitAnd BitOr BitXor LShift RShift UnaryOp USub Not Invert
    BoolOp And Or IfExp Compare Eq NotEq Lt LtE Gt GtE In NotIn Is IsNot JoinedStr FormattedValue keyword""".split()
METHODS_WITH_UNDERSCORES = ["__init__", "__eq__", "__repr__", "__str__", "__len__"]
# L8
BUILTINS = """len range enumerate zip min max sum abs sorted reversed int str bool list tuple dict set frozenset
    isinstance ord repr any all divmod Exception ValueError TypeError KeyError IndexError LookupError
    ZeroDivisionError ArithmeticError OverflowError RuntimeError NotImplementedError StopIteration""".split()
# L17
WORDS = """type typing typing_extensions enum Enum IntEnum StrEnum Flag IntFlag Generic Protocol ABC ABCMeta namedtuple
    NamedTuple TypedDict TYPE_CHECKING abstractmethod""".split()
NEVER = """register mro elements open input version_info with_traceback add_note format format_map""".split()
# L25
METHODS = """append clear copy count endswith extend find get index insert isalnum isalpha isdigit islower isspace isupper
    items join keys ljust lower lstrip partition pop remove replace reverse rfind rjust rpartition rsplit rstrip
    setdefault split splitlines startswith strip update upper values zfill bit_length add discard""".split()
PYTHONS_OWN = {name for kind in (str, int, list, tuple, dict, set, bytes) for name in dir(kind)}


def all_nodes(kind):
    return [(name, node) for name, tree in TREES.items() for node in ast.walk(tree) if isinstance(node, kind)]


def bound_names():
    defs = [(file, node.name) for file, node in all_nodes((ast.FunctionDef, ast.ClassDef))]
    parameters = [(file, node.arg) for file, node in all_nodes(ast.arg)]
    names = [(file, node.id) for file, node in all_nodes(ast.Name) if isinstance(node.ctx, ast.Store)]
    return defs, parameters + names


def drawn_from(file):
    """The files that a file imports from, and those that these import from, and so on."""
    met, unwalked = [], [file]
    while unwalked:
        for node in TREES[unwalked.pop()].body:
            if isinstance(node, ast.ImportFrom):
                other = node.module.removeprefix("wordswap.") + ".py"
                if other not in met:
                    met.append(other)
                    unwalked.append(other)
    return met


def names_at_the_top(file):
    """Of classes and imports, of defs, of plain values."""
    body = TREES[file].body
    imports = [alias.name for node in body if isinstance(node, ast.ImportFrom) for alias in node.names]
    classes = [node.name for node in body if isinstance(node, ast.ClassDef)]
    defs = [node.name for node in body if isinstance(node, ast.FunctionDef)]
    values = [target.id for node in body if isinstance(node, ast.Assign) for target in node.targets]
    return imports + classes, defs, values


def parents(file):
    return {child: node for node in ast.walk(TREES[file]) for child in ast.iter_child_nodes(node)}


def called(node):
    return node.func.id if isinstance(node, ast.Call) and isinstance(node.func, ast.Name) else None


class Language(unittest.TestCase):
    def test_there_is_something_to_look_at(self):
        self.assertIn("webs.py", TREES)

    def test_files(self):
        for path in PACKAGE.iterdir():
            if path.name != "__pycache__":
                self.assertRegex(path.name, r"^([a-z][a-z0-9_]*|__init__)\.py$")

    def test_sizes_and_signs(self):
        for name in TREES:
            text = (PACKAGE / name).read_bytes()
            self.assertRegex(text, rb"\A[\n -~]*\Z", name)
            self.assertLessEqual(text.count(b"\n"), 400, name)
            self.assertLessEqual(max(map(len, text.split(b"\n"))), 120, name)
        for file, node in all_nodes(ast.FunctionDef):
            self.assertLessEqual(node.end_lineno - node.lineno + 1, 40, (file, node.name))

    def test_words_that_stand_nowhere(self):
        for name in TREES:
            text = (PACKAGE / name).read_text(encoding="utf-8")
            self.assertEqual([word for word in re.findall(r"\w+", text) if word in WORDS], [], name)
            self.assertIsNone(re.search("dataclass|overload|contextmanager", text), name)

    def test_kinds_of_nodes(self):
        for file, node in all_nodes(ast.AST):
            self.assertIn(node.__class__.__name__, NODES, (file, getattr(node, "lineno", None)))

    def test_imports(self):
        for file, node in all_nodes(ast.ImportFrom):
            self.assertEqual(node.level, 0, file)
            self.assertRegex(node.module, r"^wordswap\.\w+$", file)
            self.assertIn(node, TREES[file].body)

    def test_imports_come_from_where_the_name_is_defined_and_never_round(self):
        for file, node in all_nodes(ast.ImportFrom):
            there = TREES[node.module.removeprefix("wordswap.") + ".py"].body
            defined = [part.name for part in there if isinstance(part, (ast.FunctionDef, ast.ClassDef))]
            defined += [target.id for part in there if isinstance(part, ast.Assign) for target in part.targets]
            for alias in node.names:
                self.assertIn(alias.name, defined, file)
                self.assertIsNone(alias.asname, file)
        for file in TREES:
            self.assertNotIn(file, drawn_from(file))

    def test_each_name_once(self):
        for file in TREES:
            taken, defs, values = names_at_the_top(file)
            self.assertEqual(len(set(taken + defs + values)), len(taken + defs + values), file)
            bound = [node.arg for node in ast.walk(TREES[file]) if isinstance(node, ast.arg)]
            bound += [node.id for node in ast.walk(TREES[file]) if isinstance(node, ast.Name)
                      and isinstance(node.ctx, ast.Store)]
            self.assertEqual(set(bound) & set(taken + defs), set(), file)

    def test_sets_are_used_on_the_spot(self):
        for file in TREES:
            above = parents(file)
            for node in [node for node in above if called(node) in ("set", "frozenset")]:
                over = above[node]
                self.assertTrue(isinstance(over, (ast.Compare, ast.BinOp)) or called(over) in ("sorted", "len"),
                                (file, node.lineno))

    def test_what_is_walked_is_walked_at_once(self):
        for file in TREES:
            above = parents(file)
            for node in [node for node in above if isinstance(node, ast.Call)]:
                name = called(node) or getattr(node.func, "attr", None)
                if name in ("zip", "enumerate", "reversed", "range", "items", "keys", "values"):
                    over = above[node]
                    walked = isinstance(over, (ast.For, ast.comprehension)) and over.iter is node
                    self.assertTrue(walked or called(over) in ("list", "tuple", "dict", "sorted", "sum", "any", "all"),
                                    (file, node.lineno))

    def test_keywords(self):
        for file, node in all_nodes(ast.Call):
            for keyword in node.keywords:
                self.assertIn((called(node), keyword.arg), [("sorted", "key"), ("sorted", "reverse"), ("min", "key"),
                              ("max", "key"), ("min", "default"), ("max", "default"), ("sum", "start"),
                              ("enumerate", "start"), ("zip", "strict")], (file, node.lineno))

    def test_functions(self):
        for file, node in all_nodes(ast.FunctionDef):
            rest = (node.args.vararg, node.args.kwarg, node.args.kwonlyargs, node.decorator_list, node.returns)
            self.assertEqual(rest, (None, None, [], [], None), (file, node.name))

    def test_classes(self):
        for file, node in all_nodes(ast.ClassDef):
            self.assertIn(node, TREES[file].body)
            self.assertLessEqual(len(node.bases), 1, node.name)
            for part in node.body:
                self.assertIsInstance(part, (ast.FunctionDef, ast.Pass), node.name)

    def test_statements(self):
        for file, node in all_nodes(ast.Expr):
            if node is not TREES[file].body[0]:
                self.assertIsInstance(node.value, ast.Call, (file, node.lineno))
        for file, node in all_nodes((ast.For, ast.While)):
            self.assertEqual(node.orelse, [], (file, node.lineno))
        for file, node in all_nodes(ast.Assign):
            self.assertEqual(len(node.targets), 1, (file, node.lineno))
        for file, node in all_nodes(ast.ListComp):
            self.assertEqual(len(node.generators), 1, (file, node.lineno))
            self.assertLessEqual(len(node.generators[0].ifs), 1, (file, node.lineno))
        for file, node in all_nodes(ast.Constant):
            self.assertIsInstance(node.value, (int, str, type(None)), (file, node.lineno))

    def test_is_stands_beside_plain_values_alone(self):
        for file, node in all_nodes(ast.Compare):
            if any(isinstance(op, (ast.Is, ast.IsNot)) for op in node.ops):
                self.assertIsInstance(node.comparators[0], ast.Constant, (file, node.lineno))
                self.assertNotIsInstance(node.comparators[0].value, str, (file, node.lineno))

    def test_errors_are_taken_by_the_programs_own_names(self):
        own = [node.name for node in TREES["errors.py"].body if isinstance(node, ast.ClassDef)]
        for file, node in all_nodes(ast.ExceptHandler):
            self.assertIn(getattr(node.type, "id", None), own + ["KeyError"], (file, node.lineno))
        for file, node in all_nodes(ast.Raise):
            self.assertIn(called(node.exc), own, (file, node.lineno))

    def test_texts(self):
        for file, node in all_nodes(ast.Constant):
            if isinstance(node.value, str):
                self.assertNotIn("%", node.value, (file, node.lineno))
        for name in TREES:
            text = (PACKAGE / name).read_text(encoding="utf-8")
            self.assertEqual(set(re.findall(r"\\.", text)) - {"\\n"}, set(), name)

    def test_values_at_the_top(self):
        for file, tree in TREES.items():
            for node in tree.body:
                if isinstance(node, ast.Assign):
                    self.assertIsInstance(node.value, ast.Constant, (file, node.lineno))

    def test_bound_names(self):
        defs, others = bound_names()
        for file, name in defs + others:
            if name not in METHODS_WITH_UNDERSCORES:
                self.assertRegex(name, r"^[A-Za-z]\w*$", file)
            self.assertNotIn(name, NEVER, file)
        for file, name in others:
            self.assertFalse(hasattr(builtins, name), (file, name))

    def test_names_read(self):
        for file, node in all_nodes(ast.Name):
            if hasattr(builtins, node.id):
                self.assertIn(node.id, BUILTINS, (file, node.lineno))

    def test_attributes(self):
        for file, node in all_nodes(ast.Attribute):
            self.assertNotIn(node.attr, NEVER, (file, node.lineno))
            if node.attr in PYTHONS_OWN and node.attr != "__init__":
                self.assertIn(node.attr, METHODS, (file, node.lineno))

    def test_no_name_is_both_a_method_and_a_value(self):
        methods = {part.name for file, node in all_nodes(ast.ClassDef) for part in node.body
                   if isinstance(part, ast.FunctionDef)}
        values = {node.attr for file, node in all_nodes(ast.Attribute) if isinstance(node.ctx, ast.Store)}
        self.assertEqual(methods & values, set())


if __name__ == "__main__":
    unittest.main()
