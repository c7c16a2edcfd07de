"""The package's files keep to the rules of the language that a look at single rows and nodes can tell.

What needs more than such a look (L11, L15, L18, L19, L22, L26, L28 and the changes of L23 for the most part) is left to
the reader.
"""

import ast
import builtins
import pathlib
import re
import unittest

PACKAGE = pathlib.Path(__file__).resolve().parent.parent / "eachonce"
ERRORS = """Exception ValueError TypeError KeyError IndexError LookupError ZeroDivisionError ArithmeticError
    OverflowError RuntimeError NotImplementedError AttributeError StopIteration""".split()
OWN_NAMES = set(ERRORS) | set("""len range enumerate zip min max sum abs sorted reversed int str bool list tuple dict
    set frozenset isinstance ord repr any all divmod""".split())
METHODS = set("""append clear copy count endswith extend find get index insert isalnum isalpha isdigit islower isspace
    isupper items join keys ljust lower lstrip partition pop remove replace reverse rfind rjust rpartition rsplit
    rstrip setdefault split splitlines startswith strip update upper values zfill bit_length""".split())
TWO_UNDERSCORES = {"__init__", "__eq__", "__repr__", "__str__", "__len__"}
WORDS = set("""type typing typing_extensions enum Enum IntEnum StrEnum Flag IntFlag Generic Protocol ABC ABCMeta
    namedtuple NamedTuple TypedDict TYPE_CHECKING abstractmethod""".split())
WITHIN_WORDS = ("dataclass", "overload", "contextmanager")
UNUSED = set("register mro elements open input version_info with_traceback add_note format format_map".split())
NODES = set("""Module FunctionDef ClassDef arguments arg Return Assign AugAssign For While If Raise Try ImportFrom
    alias Expr Pass Break Continue BoolOp BinOp UnaryOp Lambda IfExp Dict Set ListComp comprehension Compare Call
    keyword JoinedStr FormattedValue Constant Attribute Subscript Slice Name List Tuple ExceptHandler Load Store And
    Or Add Sub Mult FloorDiv Mod Pow LShift RShift BitOr BitXor BitAnd Invert Not UAdd USub Eq NotEq Lt LtE Gt GtE
    Is IsNot In NotIn""".split())


def files():
    return sorted(PACKAGE.glob("*.py"))


def nodes_of(path):
    return list(ast.walk(ast.parse(path.read_text(encoding="ascii"))))


def names_bound(nodes):
    names = []
    for node in nodes:
        if isinstance(node, (ast.FunctionDef, ast.ClassDef)):
            names.append(node.name)
        elif isinstance(node, ast.arg):
            names.append(node.arg)
        elif isinstance(node, ast.Name) and isinstance(node.ctx, ast.Store):
            names.append(node.id)
    return names


def names_of_methods(nodes):
    classes = [node for node in nodes if isinstance(node, ast.ClassDef)]
    return [part.name for node in classes for part in node.body if isinstance(part, ast.FunctionDef)]


def names_of_values(nodes):
    return [node.attr for node in nodes if isinstance(node, ast.Attribute) and isinstance(node.ctx, ast.Store)]


def drawn_from(path):
    """The names of the package's files from which this one draws."""
    return {node.module.split(".")[1] for node in nodes_of(path) if isinstance(node, ast.ImportFrom)}


def called_name(node):
    """The name by which a function or a method of Python's own is called, else None."""
    if not isinstance(node, ast.Call):
        return None
    if isinstance(node.func, ast.Name):
        return node.func.id
    return "." + node.func.attr if isinstance(node.func, ast.Attribute) else None


def pairs_with_parents():
    """Each node with the one in which it stands, and where."""
    pairs = []
    for path in files():
        for parent in nodes_of(path):
            for node in ast.iter_child_nodes(parent):
                pairs.append((node, parent, f"{path.name}, row {getattr(node, 'lineno', 0)}"))
    return pairs


def names_on_top(path):
    names = []
    for part in ast.parse(path.read_text(encoding="ascii")).body:
        if isinstance(part, ast.Assign):
            names += names_bound(part.targets)
        else:
            names += names_bound([part])
    return names


def each_node(kinds):
    """Pairs of a node and where it stands."""
    found = []
    for path in files():
        for node in nodes_of(path):
            if isinstance(node, kinds):
                found.append((node, f"{path.name}, row {getattr(node, 'lineno', 0)}"))
    return found


class Files(unittest.TestCase):
    def test_the_folder_holds_plain_files_alone(self):
        self.assertIn("__init__.py", [path.name for path in files()])
        for path in PACKAGE.iterdir():
            if path.name != "__pycache__":
                self.assertRegex(path.name, r"\A(__init__|__main__|[a-z][a-z0-9_]*)\.py\Z")
                self.assertFalse(path.stem != "__init__" and hasattr(builtins, path.stem), path.name)

    def test_signs_words_and_sizes(self):
        for path in files():
            text = path.read_text(encoding="utf-8")
            with self.subTest(file=path.name):
                self.assertRegex(text, r"\A[ -~\n]*\Z")
                self.assertLessEqual(len(text.splitlines()), 400)
                self.assertLessEqual(max(len(row) for row in text.splitlines()), 120)
                self.assertEqual(set(re.findall(r"\w+", text)) & WORDS, set())
                self.assertEqual([word for word in WITHIN_WORDS if word in text], [])

    def test_imports_are_the_packages_own_from_the_file_that_defines_them(self):
        for node, where in each_node(ast.ImportFrom):
            self.assertEqual(node.level, 0, where)
            self.assertRegex(node.module, r"\Aeachonce\.[a-z][a-z0-9_]*\Z", where)
            source = PACKAGE / (node.module.split(".")[1] + ".py")
            for alias in node.names:
                self.assertIn(alias.name, names_on_top(source), where)

    def test_no_two_files_draw_from_one_another(self):
        drawn = {path.stem: drawn_from(path) for path in files()}
        while drawn:
            free = [name for name in drawn if not drawn[name] & set(drawn)]
            self.assertNotEqual(free, [], f"round about: {sorted(drawn)}")
            drawn = {name: drawn[name] for name in drawn if name not in free}

    def test_names_on_top_are_bound_once(self):
        for path in files():
            names = names_on_top(path)
            self.assertEqual(sorted(set(names)), sorted(names), path.name)


class Nodes(unittest.TestCase):
    def test_only_those_that_are_listed(self):
        for node, where in each_node(ast.AST):
            self.assertIn(node.__class__.__name__, NODES, where)

    def test_functions_are_short_and_plain(self):
        for node, where in each_node(ast.FunctionDef):
            self.assertLessEqual(node.end_lineno - node.lineno + 1, 40, where)
            self.assertEqual(node.decorator_list, [], where)
            self.assertIsNone(node.args.vararg or node.args.kwarg, where)
            self.assertEqual(node.args.kwonlyargs + node.args.posonlyargs, [], where)

    def test_classes_are_plain(self):
        for node, where in each_node(ast.ClassDef):
            self.assertEqual(node.decorator_list + node.keywords, [], where)
            self.assertLessEqual(len(node.bases), 1, where)
            self.assertTrue(all(isinstance(part, (ast.FunctionDef, ast.Pass)) for part in node.body), where)

    def test_assignments_have_one_target(self):
        for node, where in each_node(ast.Assign):
            self.assertEqual(len(node.targets), 1, where)

    def test_loops_have_no_else_and_tries_name_their_errors(self):
        for node, where in each_node((ast.For, ast.While)):
            self.assertEqual(node.orelse, [], where)
        for node, where in each_node(ast.Try):
            self.assertEqual(node.finalbody, [], where)
            self.assertTrue(all(handler.type is not None for handler in node.handlers), where)

    def test_comprehensions_have_one_for_and_at_most_one_if(self):
        for node, where in each_node(ast.ListComp):
            self.assertEqual(len(node.generators), 1, where)
            self.assertLessEqual(len(node.generators[0].ifs), 1, where)

    def test_an_expression_by_itself_is_a_call_or_the_docstring_on_top(self):
        for node, where in each_node(ast.Expr):
            self.assertTrue(isinstance(node.value, ast.Call) or node.lineno == 1, where)

    def test_values_are_plain(self):
        for node, where in each_node(ast.Constant):
            self.assertIn(node.value.__class__, (int, str, bool, None.__class__), where)
            self.assertNotIn("%", str(node.value), where)

    def test_is_stands_beside_none_and_truths_alone(self):
        for node, where in each_node(ast.Compare):
            for operator, right in zip(node.ops, node.comparators):
                if isinstance(operator, (ast.Is, ast.IsNot)):
                    self.assertIn(ast.unparse(right), ("None", "True", "False"), where)

    def test_powers_have_a_written_exponent(self):
        for node, where in each_node(ast.BinOp):
            if isinstance(node.op, ast.Pow):
                self.assertIn(ast.unparse(node.right), [str(number) for number in range(65)], where)

    def test_what_is_walked_at_once_is_not_kept(self):
        walked = ("zip", "enumerate", "reversed", "range", ".items", ".keys", ".values")
        walkers = ("list", "tuple", "dict", "sorted", "sum", "any", "all", "enumerate", "zip", "min", "max", ".join")
        for node, parent, where in pairs_with_parents():
            if called_name(node) in walked:
                # A first thing in a call; in zip and enumerate, which walk at once themselves, any.
                in_call = called_name(parent) in walkers and (
                    parent.args[:1] == [node] or called_name(parent) in ("zip", "enumerate"))
                in_walk = isinstance(parent, (ast.For, ast.comprehension)) and parent.iter is node
                self.assertTrue(in_call or in_walk, where)

    def test_sets_stand_where_they_are_asked_alone(self):
        for node, parent, where in pairs_with_parents():
            if called_name(node) in ("set", "frozenset") or isinstance(node, ast.Set):
                in_call = called_name(parent) in ("sorted", "len") and parent.keywords == []
                self.assertTrue(in_call or isinstance(parent, (ast.Compare, ast.BinOp)), where)


class Names(unittest.TestCase):
    def test_names_that_are_bound_are_plain(self):
        for path in files():
            for name in names_bound(nodes_of(path)):
                with self.subTest(file=path.name, name=name):
                    if name not in TWO_UNDERSCORES:
                        self.assertRegex(name, r"\A[A-Za-z][A-Za-z0-9_]*\Z")
                        self.assertNotIn(name, UNUSED)

    def test_no_parameter_and_no_local_is_called_like_pythons_own(self):
        for node, where in each_node(ast.arg):
            self.assertFalse(hasattr(builtins, node.arg), where)
        for node, where in each_node(ast.Name):
            self.assertFalse(isinstance(node.ctx, ast.Store) and hasattr(builtins, node.id), where)

    def test_no_parameter_and_no_local_is_called_like_a_class_or_an_import_of_its_file(self):
        for path in files():
            nodes = nodes_of(path)
            taken = {alias.name for node in nodes if isinstance(node, ast.ImportFrom) for alias in node.names}
            taken |= {node.name for node in nodes if isinstance(node, ast.ClassDef)}
            # A method may be called so.
            bodies = [node.body for node in nodes if isinstance(node, ast.ClassDef)]
            methods = [part for body in bodies for part in body]
            others = [node for node in nodes if not isinstance(node, ast.ClassDef) and node not in methods]
            self.assertEqual(taken & set(names_bound(others)), set(), path.name)

    def test_no_name_is_a_method_of_one_class_and_a_value_of_another(self):
        nodes = [node for path in files() for node in nodes_of(path)]
        self.assertEqual(set(names_of_methods(nodes)) & set(names_of_values(nodes)), set())
        for path in files():
            for node in nodes_of(path):
                if isinstance(node, ast.ClassDef):
                    names = names_of_methods([node])
                    self.assertEqual(len(names), len(set(names)), path.name)

    def test_names_of_pythons_own_that_are_read_are_listed(self):
        for node, where in each_node(ast.Name):
            if isinstance(node.ctx, ast.Load) and hasattr(builtins, node.id):
                self.assertIn(node.id, OWN_NAMES, where)

    def test_methods_that_are_called_are_listed_or_the_packages_own(self):
        own = {name for path in files() for name in names_bound(nodes_of(path))}
        for node, where in each_node(ast.Call):
            if isinstance(node.func, ast.Attribute):
                self.assertIn(node.func.attr, METHODS | own, where)
                self.assertNotIn(node.func.attr, UNUSED, where)


if __name__ == "__main__":
    unittest.main()
