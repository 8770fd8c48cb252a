"""The form of the package's files: what of ../shared/LANGUAGE.md can be seen without much ado."""

import ast
import builtins
import pathlib
import re
import unittest

PACKAGE = pathlib.Path(__file__).resolve().parent.parent / "trustways"

OWN_NAMES = """len range enumerate zip min max sum abs sorted reversed int str bool list tuple dict set frozenset
isinstance ord repr any all divmod Exception ValueError TypeError KeyError IndexError LookupError ZeroDivisionError
ArithmeticError OverflowError RuntimeError NotImplementedError AttributeError StopIteration""".split()

METHODS = """append clear copy count endswith extend find get index insert isalnum isalpha isdigit islower isspace
isupper items join keys ljust lower lstrip partition pop remove replace reverse rfind rjust rpartition rsplit rstrip
setdefault split splitlines startswith strip update upper values zfill bit_length""".split()

BARRED_WORDS = """type typing typing_extensions enum Enum IntEnum StrEnum Flag IntFlag Generic Protocol ABC ABCMeta
namedtuple NamedTuple TypedDict TYPE_CHECKING abstractmethod""".split()

BARRED_NAMES = """register mro elements open input version_info with_traceback add_note attrgetter breakpoint builtins
compile copyright credits delattr dir eval exec exit gc getattr globals hasattr help id importlib license locals
methodcaller os quit setattr super vars sys print chr format format_map""".split()

WALKED = ["zip", "enumerate", "reversed", "range", "items", "keys", "values"]

WALKERS = "list tuple dict sorted sum any all enumerate zip min max join".split()

DUNDERS = ["__init__", "__eq__", "__repr__", "__str__", "__len__"]

NODES = """Module FunctionDef ClassDef arguments arg Return Assign AugAssign For While If Raise Try ExceptHandler
ImportFrom alias Expr Pass Break Continue BoolOp And Or BinOp UnaryOp Not USub Lambda IfExp Dict Set ListComp
comprehension Compare Call keyword JoinedStr FormattedValue Constant Attribute Subscript Slice Name List Tuple Load
Store Add Sub Mult FloorDiv Mod Pow LShift RShift BitOr BitXor BitAnd Invert Eq NotEq Lt LtE Gt GtE Is IsNot In
NotIn""".split()


def files():
    return sorted(path for path in PACKAGE.rglob("*") if path.is_file() and "__pycache__" not in path.parts)


def tree(path):
    return ast.parse(path.read_text(encoding="utf-8"))


def nodes(kind):
    """Each node of a kind in the package, with the place where it stands."""
    for path in files():
        for node in ast.walk(tree(path)):
            if isinstance(node, kind):
                yield f"{path.name}:{getattr(node, 'lineno', 0)}", node


def bound(module):
    """All names that a file gives a meaning, at its top or within its defs."""
    told = set()
    for node in ast.walk(module):
        if isinstance(node, (ast.FunctionDef, ast.ClassDef)):
            told.add(node.name)
        if isinstance(node, ast.arg):
            told.add(node.arg)
        if isinstance(node, ast.Name) and isinstance(node.ctx, ast.Store):
            told.add(node.id)
        if isinstance(node, ast.alias):
            told.add(node.asname or node.name)
        if isinstance(node, ast.ExceptHandler) and node.name:
            told.add(node.name)
    return told


def held_by(module):
    """Each node's holder."""
    return {part: node for node in ast.walk(module) for part in ast.iter_child_nodes(node)}


def called(node):
    """The name of what a call calls, also of a method; None of what is no call of a name."""
    if not isinstance(node, ast.Call):
        return None
    return getattr(node.func, "id", getattr(node.func, "attr", None))


def is_walked(node, holder):
    if isinstance(holder, (ast.For, ast.comprehension)):
        return holder.iter is node
    return called(holder) in WALKERS and node in holder.args


def drawn_from(path):
    return [node.module for node in tree(path).body if isinstance(node, ast.ImportFrom)]


class Files(unittest.TestCase):
    def test_plain_files_with_an_init(self):
        self.assertIn(PACKAGE / "__init__.py", files())
        for path in files():
            self.assertRegex(path.name, r"^(__init__|[a-z][a-z0-9_]*)\.py$")
            self.assertEqual(path.parent, PACKAGE)

    def test_signs_and_sizes(self):
        for path in files():
            text = path.read_bytes().decode("ascii")
            self.assertTrue(all(sign == "\n" or " " <= sign <= "~" for sign in text), path.name)
            rows = text.split("\n")
            self.assertLessEqual(len(rows), 400, path.name)
            self.assertLessEqual(max(len(row) for row in rows), 120, path.name)

    def test_barred_words(self):
        for path in files():
            text = path.read_text(encoding="utf-8")
            for word in BARRED_WORDS:
                self.assertIsNone(re.search(rf"\b{word}\b", text), f"{path.name}: {word}")
            for part in ["dataclass", "overload", "contextmanager"]:
                self.assertNotIn(part, text, path.name)


class Imports(unittest.TestCase):
    def test_only_own_names_from_the_file_that_defines_them(self):
        for place, node in nodes(ast.ImportFrom):
            self.assertEqual(node.level, 0, place)
            self.assertRegex(node.module, r"^trustways\.[a-z0-9_]+$", place)
            source = tree(PACKAGE / (node.module.split(".")[1] + ".py"))
            defined = [part.name for part in source.body if isinstance(part, (ast.FunctionDef, ast.ClassDef))]
            for part in source.body:
                if isinstance(part, ast.Assign):
                    defined.append(part.targets[0].id)
            for alias in node.names:
                self.assertIn(alias.name, defined, place)

    def test_no_two_files_draw_from_one_another(self):
        left = {f"trustways.{path.stem}": drawn_from(path) for path in files()}
        while left:
            free = [name for name in left if not any(other in left for other in left[name])]
            self.assertTrue(free, left)
            left = {name: left[name] for name in left if name not in free}


class Code(unittest.TestCase):
    def test_kinds_of_nodes(self):
        for place, node in nodes(ast.AST):
            self.assertIn(type(node).__name__, NODES, place)

    def test_top_of_a_file(self):
        for path in files():
            body = tree(path).body
            self.assertIsInstance(ast.get_docstring(tree(path)), str, path.name)
            names = []
            for node in body[1:]:
                self.assertIsInstance(node, (ast.ImportFrom, ast.FunctionDef, ast.ClassDef, ast.Assign), path.name)
                if isinstance(node, ast.Assign):
                    ast.literal_eval(node.value)
                    names.append(node.targets[0].id)
                if isinstance(node, (ast.FunctionDef, ast.ClassDef)):
                    names.append(node.name)
            self.assertEqual(len(names), len(set(names)), path.name)

    def test_functions(self):
        for place, node in nodes(ast.FunctionDef):
            self.assertLessEqual(node.end_lineno - node.lineno + 1, 40, place)
            self.assertEqual(node.decorator_list, [], place)
            given = node.args
            self.assertFalse(given.vararg or given.kwarg or given.kwonlyargs or given.posonlyargs, place)

    def test_classes(self):
        for place, node in nodes(ast.ClassDef):
            self.assertLessEqual(len(node.bases), 1, place)
            self.assertEqual((node.decorator_list, node.keywords), ([], []), place)
            for part in node.body:
                self.assertIsInstance(part, (ast.FunctionDef, ast.Pass), place)

    def test_no_name_is_a_method_of_one_class_and_a_value_of_another(self):
        methods = [part.name for place, node in nodes(ast.ClassDef)
                   for part in node.body if isinstance(part, ast.FunctionDef)]
        for place, node in nodes(ast.Attribute):
            if isinstance(node.ctx, ast.Store):
                self.assertNotIn(node.attr, methods, place)

    def test_what_is_made_gives_nothing_back(self):
        for place, node in nodes(ast.FunctionDef):
            if node.name == "__init__":
                self.assertFalse(any(isinstance(part, ast.Return) for part in ast.walk(node)), place)

    def test_names(self):
        for path in files():
            module = tree(path)
            own = bound(module)
            for name in own:
                self.assertTrue(name in DUNDERS or not name.startswith("_"), f"{path.name}: {name}")
                self.assertNotIn(name, BARRED_NAMES, path.name)
            methods = [part.name for node in ast.walk(module) if isinstance(node, ast.ClassDef)
                       for part in node.body if isinstance(part, ast.FunctionDef)]
            for name in own:
                self.assertTrue(name in methods or not hasattr(builtins, name), f"{path.name}: {name}")
            for node in ast.walk(module):
                if isinstance(node, ast.Name):
                    self.assertIn(node.id, list(own) + OWN_NAMES, path.name)

    def test_no_local_is_called_like_a_class_or_an_import_of_its_file(self):
        for path in files():
            module = tree(path)
            taken = [alias.name for node in module.body if isinstance(node, ast.ImportFrom) for alias in node.names]
            taken += [node.name for node in module.body if isinstance(node, ast.ClassDef)]
            for node in ast.walk(module):
                if isinstance(node, ast.arg):
                    self.assertNotIn(node.arg, taken, path.name)
                if isinstance(node, ast.Name) and isinstance(node.ctx, ast.Store):
                    self.assertNotIn(node.id, taken, path.name)

    def test_attributes(self):
        own = set()
        for path in files():
            own |= bound(tree(path))
        own |= {node.attr for place, node in nodes(ast.Attribute) if isinstance(node.ctx, ast.Store)}
        for place, node in nodes(ast.Attribute):
            self.assertIn(node.attr, list(own) + METHODS, place)
            self.assertNotIn(node.attr, BARRED_NAMES, place)

    def test_statements_and_expressions(self):
        for place, node in nodes((ast.For, ast.While)):
            self.assertEqual(node.orelse, [], place)
        for place, node in nodes(ast.Try):
            self.assertEqual(node.finalbody, [], place)
        for place, node in nodes(ast.Assign):
            self.assertEqual(len(node.targets), 1, place)
        for place, node in nodes(ast.ListComp):
            self.assertEqual(len(node.generators), 1, place)
            self.assertLessEqual(len(node.generators[0].ifs), 1, place)
        for place, node in nodes(ast.ExceptHandler):
            self.assertIsNotNone(node.type, place)

    def test_what_is_walked_at_once_and_sets(self):
        for path in files():
            module = tree(path)
            held = held_by(module)
            for node in ast.walk(module):
                if isinstance(node, (ast.Set, ast.SetComp)):
                    self.fail(f"{path.name}:{node.lineno}: a set that is written out")
                if isinstance(node, ast.Call) and called(node) in WALKED:
                    self.assertTrue(is_walked(node, held[node]), f"{path.name}:{node.lineno}")
                if isinstance(node, ast.Call) and called(node) in ["set", "frozenset"]:
                    holder = held[node]
                    asked = isinstance(holder, ast.Compare) or called(holder) in ["len", "sorted"]
                    self.assertTrue(asked, f"{path.name}:{node.lineno}")

    def test_keywords_of_pythons_own(self):
        for place, node in nodes(ast.Call):
            if called(node) in OWN_NAMES + METHODS:
                for keyword in node.keywords:
                    self.assertIn(keyword.arg, ["key", "reverse", "default", "start", "strict"], place)

    def test_errors_that_are_taken_and_raised(self):
        for place, node in nodes(ast.ExceptHandler):
            for name in ast.walk(node.type):
                self.assertNotIn(getattr(name, "id", ""), ["Exception", "TypeError"], place)
        for place, node in nodes(ast.Raise):
            self.assertIsInstance(node.exc, ast.Call, place)

    def test_is_stands_beside_none_and_truths_alone(self):
        for place, node in nodes(ast.Compare):
            for operator, right in zip(node.ops, node.comparators):
                if isinstance(operator, (ast.Is, ast.IsNot)):
                    self.assertTrue(isinstance(right, ast.Constant) and right.value in (None, True, False), place)

    def test_texts_with_names_in_them(self):
        for place, node in nodes(ast.FormattedValue):
            self.assertIsInstance(node.value, ast.Name, place)
            self.assertIsNone(node.format_spec, place)

    def test_numbers_and_texts(self):
        for place, node in nodes(ast.Constant):
            self.assertTrue(node.value is None or isinstance(node.value, (int, str)), place)
            if isinstance(node.value, str):
                self.assertNotIn("%", node.value, place)
        for place, node in nodes(ast.BinOp):
            if isinstance(node.op, ast.Pow):
                self.assertIsInstance(node.right, ast.Constant, place)
                self.assertIn(node.right.value, range(0, 65), place)


if __name__ == "__main__":
    unittest.main()
