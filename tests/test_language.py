"""The form of the program's files: the rules of the language that can be seen in the files themselves."""

import ast
import builtins
import pathlib
import re
import unittest

PACKAGE = pathlib.Path(__file__).resolve().parent.parent / "placedworks"
FILES = sorted([path for path in PACKAGE.rglob("*") if path.is_file() and "__pycache__" not in path.parts])
TREES = {path.name: ast.parse(path.read_text()) for path in FILES}

BUILT_IN = set("""len range enumerate zip min max sum abs sorted reversed int str bool bytes list tuple dict isinstance
    ord repr any all divmod ValueError KeyError""".split())
TWO_UNDERSCORES = {"__init__", "__eq__", "__repr__", "__str__", "__len__"}
METHODS = set("""append clear copy count endswith extend find get index insert isalnum isalpha isdigit islower isspace
    isupper items join keys ljust lower lstrip partition pop remove replace reverse rfind rjust rpartition rsplit rstrip
    setdefault split splitlines startswith strip update upper values zfill bit_length""".split())
NOWHERE = """type typing typing_extensions enum Enum IntEnum StrEnum Flag IntFlag Generic Protocol ABC ABCMeta namedtuple
    NamedTuple TypedDict TYPE_CHECKING abstractmethod""".split()
UNUSED_NAMES = set("""register mro elements open input version_info with_traceback add_note attrgetter breakpoint builtins
    compile copyright credits delattr dir eval exec exit gc getattr globals hasattr help id importlib license locals
    methodcaller os quit setattr super vars sys format format_map args""".split())
OUT = (
    ast.With, ast.Match, ast.Global, ast.Nonlocal, ast.Yield, ast.YieldFrom, ast.Await, ast.AsyncFor, ast.AsyncWith,
    ast.AsyncFunctionDef, ast.GeneratorExp, ast.NamedExpr, ast.Div, ast.MatMult, ast.Set, ast.SetComp, ast.AnnAssign,
)
WALKS = {"zip", "enumerate", "reversed", "range"}
VIEWS = {"items", "keys", "values"}
WALKERS = {"list", "tuple", "dict", "sorted", "sum", "any", "all", "enumerate", "zip", "bytes", "min", "max"}


def nodes(kind):
    """Each node of a kind in the package, with its place for a message."""
    for name, tree in TREES.items():
        for node in ast.walk(tree):
            if isinstance(node, kind):
                yield f"{name}:{getattr(node, 'lineno', 0)}", node


def defs_of(tree):
    return [node for node in ast.walk(tree) if isinstance(node, ast.FunctionDef)]


def parameters(node):
    return [each.arg for each in node.args.args + node.args.kwonlyargs]


def bound_in(node):
    names = [each.id for each in ast.walk(node) if isinstance(each, ast.Name) and isinstance(each.ctx, ast.Store)]
    lambdas = [each for each in ast.walk(node) if isinstance(each, (ast.Lambda, ast.FunctionDef))]
    return names + [name for each in lambdas for name in parameters(each)]


def top_names(tree):
    names = []
    for node in tree.body:
        if isinstance(node, (ast.FunctionDef, ast.ClassDef)):
            names.append(node.name)
        if isinstance(node, ast.ImportFrom):
            names += [each.name for each in node.names]
        if isinstance(node, ast.Assign):
            names += [target.id for target in node.targets]
    return names


def own_methods():
    classes = [node for _, node in nodes(ast.ClassDef)]
    return {each.name for node in classes for each in node.body if isinstance(each, ast.FunctionDef)}


class TestFiles(unittest.TestCase):
    def test_there_is_a_package(self):
        self.assertIn("__init__.py", TREES)

    def test_names_of_files(self):
        for path in FILES:
            self.assertRegex(path.name, r"\A(__init__|[a-z][a-z0-9_]*)\.py\Z")

    def test_signs_and_sizes(self):
        for path in FILES:
            text = path.read_bytes().decode("ascii")
            rows = text.split("\n")
            self.assertLessEqual(len(rows), 400, path.name)
            for at, row in enumerate(rows):
                self.assertRegex(row, r"\A[ -~]{0,120}\Z", (path.name, at + 1))

    def test_no_function_of_more_than_forty_lines(self):
        for place, node in nodes(ast.FunctionDef):
            self.assertLessEqual(node.end_lineno - node.lineno + 1, 40, place)

    def test_words_that_stand_nowhere(self):
        for path in FILES:
            text = path.read_text()
            for word in NOWHERE:
                self.assertNotRegex(text, rf"\b{word}\b", path.name)
            self.assertNotRegex(text, r"dataclass|overload|contextmanager", path.name)


class TestTops(unittest.TestCase):
    def test_what_stands_at_a_files_top(self):
        for name, tree in TREES.items():
            self.assertIsNotNone(ast.get_docstring(tree), name)
            for node in tree.body[1:]:
                self.assertIsInstance(node, (ast.ImportFrom, ast.FunctionDef, ast.ClassDef, ast.Assign), name)
                if isinstance(node, ast.Assign):
                    for each in ast.walk(node.value):
                        self.assertNotIsInstance(each, (ast.Call, ast.ListComp, ast.DictComp, ast.Lambda), name)

    def test_each_name_once(self):
        for name, tree in TREES.items():
            names = top_names(tree)
            self.assertEqual(len(names), len(set(names)), name)

    def test_imports_are_drawn_from_the_file_that_defines_them(self):
        for place, node in nodes((ast.Import, ast.ImportFrom)):
            self.assertIsInstance(node, ast.ImportFrom, place)
            package, _, module = node.module.partition(".")
            self.assertEqual((package, node.level), ("placedworks", 0), place)
            defined = [each for each in TREES[module + ".py"].body if not isinstance(each, ast.ImportFrom)]
            for each in node.names:
                self.assertIn(each.name, top_names(ast.Module(defined, [])), place)
                self.assertIsNone(each.asname, place)

    def test_no_imports_go_round(self):
        drawn = {name: [node.module.partition(".")[2] + ".py" for node in tree.body
                        if isinstance(node, ast.ImportFrom)] for name, tree in TREES.items()}
        while drawn:
            free = [name for name in drawn if not [each for each in drawn[name] if each in drawn]]
            self.assertTrue(free, drawn)
            for name in free:
                del drawn[name]


class TestForms(unittest.TestCase):
    def test_nodes_that_are_out(self):
        for place, node in nodes(OUT):
            self.fail(f"{place} {node}")

    def test_defs_are_plain(self):
        for place, node in nodes((ast.FunctionDef, ast.ClassDef)):
            self.assertEqual(node.decorator_list, [], place)
        for place, node in nodes(ast.arguments):
            self.assertIsNone(node.vararg, place)
            self.assertIsNone(node.kwarg, place)
            self.assertEqual(node.posonlyargs, [], place)
            for default in node.defaults + [each for each in node.kw_defaults if each]:
                self.assertIsInstance(default, (ast.Constant, ast.Name), place)

    def test_loops_have_no_else(self):
        for place, node in nodes((ast.For, ast.While)):
            self.assertEqual(node.orelse, [], place)

    def test_is_stands_beside_none_and_truths(self):
        for place, node in nodes(ast.Compare):
            for sign, right in zip(node.ops, node.comparators):
                if isinstance(sign, (ast.Is, ast.IsNot)):
                    self.assertIn(repr(getattr(right, "value", right)), ("None", "True", "False"), place)

    def test_values(self):
        for place, node in nodes(ast.Constant):
            self.assertIsInstance(node.value, (int, str, bytes, type(None)), place)
            if isinstance(node.value, str):
                self.assertNotIn("%", node.value, place)
        for place, node in nodes(ast.FormattedValue):
            self.assertIsNone(node.format_spec, place)
        for place, node in nodes(ast.Starred):
            self.assertIsInstance(node.ctx, ast.Store, place)
        for place, node in nodes(ast.Pow):
            self.fail(place)

    def test_walks_are_walked_on_the_spot(self):
        allowed = set()
        for _, node in nodes((ast.For, ast.comprehension)):
            allowed.add(node.iter)
        for _, node in nodes(ast.Call):
            if isinstance(node.func, ast.Name) and node.func.id in WALKERS:
                allowed.update(node.args)
        for place, node in nodes(ast.Call):
            called = getattr(node.func, "id", None) or getattr(node.func, "attr", None)
            if called in (WALKS if isinstance(node.func, ast.Name) else VIEWS):
                self.assertIn(node, allowed, place)

    def test_errors_are_the_programs_own(self):
        own = {node.name for node in TREES["errors.py"].body if isinstance(node, ast.ClassDef)}
        for place, node in nodes(ast.ExceptHandler):
            self.assertIn(node.type.id, own, place)
        for place, node in nodes(ast.Raise):
            self.assertIn(node.exc.func.id, own, place)


class TestNames(unittest.TestCase):
    def test_names_are_plain(self):
        for name, tree in TREES.items():
            names = top_names(tree) + bound_in(tree) + [node.name for node in defs_of(tree)]
            names += [node.attr for node in ast.walk(tree) if isinstance(node, ast.Attribute)]
            for each in names:
                if each not in TWO_UNDERSCORES:
                    self.assertTrue(re.fullmatch(r"[A-Za-z][A-Za-z0-9_]*", each), (name, each))
                    self.assertNotIn(each, UNUSED_NAMES, name)

    def test_locals_are_called_like_nothing_else(self):
        for name, tree in TREES.items():
            taken = {each.name for node in tree.body if isinstance(node, ast.ImportFrom) for each in node.names}
            taken |= {node.name for node in tree.body if isinstance(node, ast.ClassDef)}
            for node in defs_of(tree):
                for each in bound_in(node):
                    self.assertNotIn(each, taken, (name, node.name))
                    self.assertFalse(hasattr(builtins, each), (name, node.name, each))

    def test_pythons_own_names(self):
        for name, tree in TREES.items():
            known = set(top_names(tree)) | set(bound_in(tree)) | BUILT_IN
            for node in ast.walk(tree):
                if isinstance(node, ast.Name):
                    self.assertIn(node.id, known, name)

    def test_methods(self):
        own = own_methods()
        for place, node in nodes(ast.Call):
            if isinstance(node.func, ast.Attribute):
                self.assertIn(node.func.attr, METHODS | own, place)

    def test_no_name_is_a_method_and_a_value(self):
        values = {node.attr for _, node in nodes(ast.Attribute) if isinstance(node.ctx, ast.Store)}
        self.assertEqual(values & own_methods(), set())
        pythons = {each for kind in (str, int, list, dict, set, bytes, tuple) for each in dir(kind)}
        self.assertEqual(values & pythons, set())
        self.assertEqual((own_methods() - TWO_UNDERSCORES - METHODS) & pythons, set())


if __name__ == "__main__":
    unittest.main()
