"""Whether the files of the package keep to the mechanical rules of the Python subset."""

import ast
import builtins
import functools
import pathlib
import unittest

PACKAGE = pathlib.Path(__file__).resolve().parent.parent / "aboveless"
FILES = sorted(PACKAGE.rglob("*.py"))
TREES = {path: ast.parse(path.read_text(encoding="utf-8")) for path in FILES}

BUILTINS = """len range enumerate zip min max sum abs sorted reversed int str bool bytes list tuple dict set frozenset
isinstance ord repr any all divmod iter next map super property staticmethod classmethod Exception ValueError TypeError
KeyError IndexError LookupError ZeroDivisionError ArithmeticError OverflowError RuntimeError NotImplementedError
AttributeError StopIteration NotImplemented""".split()
METHODS = """append clear copy count endswith extend find get index insert isalnum isalpha isdigit islower isspace isupper
items join keys ljust lower lstrip partition pop remove replace reverse rfind rjust rpartition rsplit rstrip setdefault
split splitlines startswith strip update upper values zfill bit_length title capitalize swapcase casefold center
expandtabs removeprefix removesuffix rindex isascii isdecimal isnumeric istitle isidentifier isprintable""".split()
UNUSED = """register mro elements open input law version_info with_traceback add_note attrgetter breakpoint builtins compile
copyright credits delattr dir eval exec exit gc getattr globals hasattr help id importlib license locals methodcaller os
quit setattr type vars sys""".split()
BARRED = """type typing typing_extensions enum Enum IntEnum StrEnum Flag IntFlag Generic Protocol ABC ABCMeta namedtuple
NamedTuple TypedDict TYPE_CHECKING abstractmethod dataclass overload contextmanager""".split()
SPECIAL = """__init__ __eq__ __repr__ __str__ __len__ __enter__ __exit__ __call__ __iter__ __lt__ __le__ __gt__ __ge__ __ne__
__add__ __sub__ __mul__ __floordiv__ __mod__ __and__ __or__ __xor__ __neg__ __bool__ __contains__""".split()
OPERATORS = SPECIAL[9:]
FUNCTIONS = (ast.FunctionDef,)


ALL_NODES = [(path.name, node) for path, tree in TREES.items() for node in ast.walk(tree)]


@functools.lru_cache(maxsize=None)
def nodes(kind):
    return [(name, node) for name, node in ALL_NODES if isinstance(node, kind)]


def functions():
    return [node for _, node in nodes(FUNCTIONS)]


def is_generator(function):
    return any(isinstance(node, (ast.Yield, ast.YieldFrom)) for node in ast.walk(function))


def parents(tree):
    return {child: node for node in ast.walk(tree) for child in ast.iter_child_nodes(node)}


def called_name(node):
    return node.func.id if isinstance(node, ast.Call) and isinstance(node.func, ast.Name) else None


def classes():
    return {node.name: node for _, node in nodes(ast.ClassDef)}


def methods(made):
    return [node for node in made.body if isinstance(node, ast.FunctionDef)]


def stored_attributes(made):
    return {
        node.attr for node in ast.walk(made)
        if isinstance(node, ast.Attribute) and isinstance(node.ctx, ast.Store)
    }


class FilesTest(unittest.TestCase):
    def test_folder(self):
        others = [path for path in PACKAGE.rglob("*") if path.is_file() and path.suffix != ".py"]
        self.assertEqual([path for path in others if "__pycache__" not in path.parts], [])
        for path in FILES:
            self.assertRegex(path.name, r"^(__init__|__main__|[a-z][a-z0-9_]*)\.py$")
            self.assertNotIn(path.stem, BARRED + dir(builtins))

    def test_sizes_and_characters(self):
        for path in FILES:
            text = path.read_text(encoding="utf-8")
            self.assertTrue(all(" " <= sign <= "~" or sign == "\n" for sign in text), path)
            self.assertLess(len(text.splitlines()), 400, path)
            self.assertLessEqual(max([len(line) for line in text.splitlines()] or [0]), 120, path)
        for path, function in nodes(FUNCTIONS):
            first = min([function.lineno] + [part.lineno for part in function.decorator_list])
            self.assertLessEqual(function.end_lineno - first + 1, 40, (path, function.name))

    def test_module_level(self):
        for path, tree in TREES.items():
            for at, node in enumerate(tree.body):
                if isinstance(node, ast.Assign):
                    self.assertTrue(len(node.targets) == 1 and isinstance(node.targets[0], ast.Name), (path, node.lineno))
                elif isinstance(node, ast.Expr):
                    self.assertTrue(at == 0 and isinstance(node.value, ast.Constant), (path, node.lineno))
                else:
                    self.assertIsInstance(node, (ast.ImportFrom, ast.FunctionDef, ast.ClassDef), (path, node.lineno))

    def test_imports(self):
        defined = {}
        imported = {}
        for path, tree in TREES.items():
            names = [node.name for node in tree.body if isinstance(node, (ast.FunctionDef, ast.ClassDef))]
            names += [node.targets[0].id for node in tree.body if isinstance(node, ast.Assign)]
            self.assertEqual(len(names), len(set(names)), path)
            defined[f"aboveless.{path.stem}"] = names
        for path, tree in TREES.items():
            imported[f"aboveless.{path.stem}"] = []
            for node in ast.walk(tree):
                self.assertNotIsInstance(node, ast.Import, path)
                if isinstance(node, ast.ImportFrom):
                    self.assertEqual(node.level, 0)
                    self.assertIn(node.module, defined, path)
                    for name in node.names:
                        self.assertIsNone(name.asname)
                        self.assertIn(name.name, defined[node.module], path)
                    imported[f"aboveless.{path.stem}"].append(node.module)
        left = dict(imported)
        while left:
            free = [name for name, others in left.items() if not any(other in left for other in others)]
            self.assertTrue(free, f"a circle of imports: {sorted(left)}")
            left = {name: others for name, others in left.items() if name not in free}

    def test_imported_names_are_used(self):
        for path, tree in TREES.items():
            used = {node.id for node in ast.walk(tree) if isinstance(node, ast.Name)}
            for node in tree.body:
                if isinstance(node, ast.ImportFrom):
                    for name in node.names:
                        self.assertIn(name.name, used, path)


class WordsTest(unittest.TestCase):
    def test_names(self):
        for path, node in nodes((ast.Name, ast.arg, ast.FunctionDef, ast.ClassDef, ast.Attribute, ast.keyword)):
            name = {ast.Name: "id", ast.Attribute: "attr", ast.arg: "arg", ast.keyword: "arg"}.get(type(node), "name")
            word = getattr(node, name)
            if word is None or (word.startswith("__") and word in SPECIAL + ["__class__", "__name__"]):
                continue
            self.assertRegex(word, r"^(_|_?[A-Za-z][A-Za-z0-9_]*)$", path)
            self.assertNotIn(word, UNUSED, path)
            self.assertNotRegex(word, r"^(_wall|_pe_|_dcw_|_enum_|_cm_|_twin_re_|_lay_|_law_|_stub_|_sre)", path)
            self.assertNotRegex(word, r"^_(cold|tuplegetter|outside|record|written_out|member_names)[0-9_]*$", path)

    def test_builtins(self):
        for path, node in nodes(ast.Name):
            if node.id in dir(builtins):
                self.assertIn(node.id, BUILTINS, path)
                self.assertIsInstance(node.ctx, ast.Load, (path, node.id))
        for path, node in nodes((ast.arg, ast.FunctionDef, ast.ClassDef)):
            name = node.arg if isinstance(node, ast.arg) else node.name
            self.assertNotIn(name, dir(builtins), path)

    def test_strings(self):
        for path, node in nodes(ast.Constant):
            self.assertNotIsInstance(node.value, (float, complex), path)
            if isinstance(node.value, str):
                self.assertNotIn("%", node.value, path)
                self.assertFalse(node.value.endswith(("._", ".__")), path)
                self.assertFalse(node.value.startswith("__") and node.value.endswith("__"), path)

    def test_barred_words(self):
        for path, tree in TREES.items():
            docstrings = [ast.get_docstring(node, clean=False) for node in ast.walk(tree)
                          if isinstance(node, (ast.Module, ast.ClassDef, ast.FunctionDef))]
            words = [node.value for node in ast.walk(tree) if isinstance(node, ast.Constant)]
            words = [word for word in words if isinstance(word, str) and word not in docstrings]
            words += [node.id for node in ast.walk(tree) if isinstance(node, ast.Name)]
            for word in words:
                for barred in BARRED[1:]:
                    self.assertNotIn(barred, word.replace("_", " ").split() + [word], path)

    def test_locals_are_not_imports_or_classes(self):
        for path, tree in TREES.items():
            taken = [node.name for node in tree.body if isinstance(node, ast.ClassDef)]
            taken += [name.name for node in tree.body if isinstance(node, ast.ImportFrom) for name in node.names]
            for node in ast.walk(tree):
                if isinstance(node, ast.Name) and isinstance(node.ctx, ast.Store):
                    self.assertNotIn(node.id, taken, path)
                if isinstance(node, ast.arg):
                    self.assertNotIn(node.arg, taken, path)


class StatementsTest(unittest.TestCase):
    def test_barred_statements(self):
        barred = (ast.Global, ast.AsyncFor, ast.AsyncFunctionDef, ast.AsyncWith, ast.Await, ast.Div, ast.MatMult)
        for path, tree in TREES.items():
            for node in ast.walk(tree):
                self.assertNotIsInstance(node, barred, (path, getattr(node, "lineno", 0)))

    def test_is(self):
        for path, node in nodes(ast.Compare):
            for sign, right in zip(node.ops, node.comparators):
                if isinstance(sign, (ast.Is, ast.IsNot)):
                    self.assertTrue(isinstance(right, ast.Constant) and right.value in (None, True, False), path)

    def test_powers(self):
        for path, node in nodes(ast.BinOp):
            if isinstance(node.op, ast.Pow):
                self.assertIsInstance(node.right, ast.Constant, path)
                self.assertTrue(0 <= node.right.value <= 64, path)

    def test_handlers(self):
        own = [name for name in classes()]
        for path, node in nodes(ast.ExceptHandler):
            names = node.type.elts if isinstance(node.type, ast.Tuple) else [node.type]
            for name in names:
                self.assertIn(name.id, own + ["KeyError", "ZeroDivisionError"], path)

    def test_raises(self):
        for path, node in nodes(ast.Raise):
            self.assertTrue(node.exc is None or called_name(node.exc) in classes(), (path, node.lineno))

    def test_decorators(self):
        for path, function in nodes(FUNCTIONS):
            for part in function.decorator_list:
                self.assertIn(ast.unparse(part), ("property", "staticmethod", "classmethod"), path)

    def test_builtin_calls(self):
        takes_lists = ("any", "all", "min", "max", "sum", "sorted")
        keywords = {"sorted": ["key", "reverse"], "min": ["key", "default"], "max": ["key", "default"], "sum": ["start"],
                    "enumerate": ["start"], "zip": ["strict"]}
        for path, node in nodes(ast.Call):
            name = called_name(node)
            if name in takes_lists:
                self.assertNotIsInstance(node.args[0], ast.GeneratorExp, (path, node.lineno))
            if name in dir(builtins):
                for keyword in node.keywords:
                    self.assertIn(keyword.arg, keywords.get(name, []), (path, node.lineno))
            for part in node.args:
                if isinstance(part, ast.Starred):
                    self.assertTrue(is_plain_star(part.value), (path, node.lineno))

    def test_methods_of_builtin_values(self):
        own = {function.name for function in functions()}
        for path, node in nodes(ast.Call):
            if isinstance(node.func, ast.Attribute) and node.func.attr != "__init__":
                self.assertIn(node.func.attr, METHODS + sorted(own), (path, node.lineno))

    def test_f_strings(self):
        for path, node in nodes(ast.JoinedStr):
            self.assertEqual(node.lineno, node.end_lineno, path)
            for part in ast.walk(node):
                if isinstance(part, ast.FormattedValue):
                    inner = [piece for piece in ast.walk(part.value) if isinstance(piece, ast.JoinedStr)]
                    self.assertEqual(inner, [], (path, node.lineno))

    def test_sets(self):
        for path, tree in TREES.items():
            above = parents(tree)
            for node in ast.walk(tree):
                self.assertNotIsInstance(node, ast.SetComp, path)
                if called_name(node) == "set":
                    holder = above[node]
                    good = called_name(holder) in ("sorted", "len") or isinstance(holder, ast.Compare)
                    self.assertTrue(good, (path, node.lineno))

    def test_views_are_iterated_at_once(self):
        for path, tree in TREES.items():
            above = parents(tree)
            for node in ast.walk(tree):
                named = called_name(node) in ("zip", "enumerate", "reversed")
                viewed = isinstance(node, ast.Call) and isinstance(node.func, ast.Attribute) and (
                    node.func.attr in ("items", "keys", "values"))
                if named or viewed:
                    self.assertTrue(is_iterated(node, above[node]), (path, node.lineno))

    def test_loops_do_not_change_what_they_iterate_over(self):
        changing = ("append", "pop", "remove", "insert", "clear", "extend", "update", "setdefault", "reverse")
        for path, loop in nodes(ast.For):
            source = ast.unparse(loop.iter)
            for node in ast.walk(loop):
                if isinstance(node, ast.Call) and isinstance(node.func, ast.Attribute) and node.func.attr in changing:
                    self.assertNotEqual(ast.unparse(node.func.value), source, (path, node.lineno))
                if isinstance(node, ast.Subscript) and isinstance(node.ctx, (ast.Store, ast.Del)):
                    self.assertNotIn(ast.unparse(node.value), (source, source.split(".items")[0]), (path, node.lineno))


def is_plain_star(value):
    """Whether what stands behind a star is a name, or an attribute off a name that is no property."""
    if isinstance(value, ast.Attribute):
        return isinstance(value.value, ast.Name) and value.attr not in property_names()
    return isinstance(value, ast.Name)


def is_iterated(node, holder):
    if isinstance(holder, (ast.For, ast.comprehension)):
        return holder.iter is node
    if isinstance(holder, ast.YieldFrom):
        return True
    taking = ("list", "tuple", "dict", "sorted", "sum", "min", "max", "any", "all", "enumerate", "zip")
    if called_name(holder) in taking:
        return holder.args[0] is node
    return isinstance(holder, ast.Call) and isinstance(holder.func, ast.Attribute) and holder.func.attr == "join"


class ClassesTest(unittest.TestCase):
    def test_double_underscore_methods(self):
        for path, function in nodes(FUNCTIONS):
            if function.name.startswith("__"):
                self.assertIn(function.name, SPECIAL, path)

    def test_returns(self):
        for path, function in nodes(FUNCTIONS):
            returns = [node.value for node in ast.walk(function) if isinstance(node, ast.Return)]
            if function.name == "__init__":
                self.assertEqual(returns, [], path)
            if function.name == "__len__":
                self.assertTrue(all(called_name(value) == "len" for value in returns), path)
            if function.name in ("__str__", "__repr__"):
                for value in returns:
                    good = isinstance(value, ast.JoinedStr) or called_name(value) in ("str", "repr")
                    self.assertTrue(good, (path, function.name))
            if function.name in ("__len__", "__str__", "__repr__", "__eq__"):
                self.assertEqual(len(function.body), 1, (path, function.name))

    def test_operators_change_nothing(self):
        for path, function in nodes(FUNCTIONS):
            if function.name not in OPERATORS + ["__eq__", "__len__", "__str__", "__repr__"] + property_names():
                continue
            for node in ast.walk(function):
                self.assertNotIsInstance(node, (ast.AugAssign, ast.Delete), (path, function.name))
                if isinstance(node, (ast.Attribute, ast.Subscript)):
                    self.assertIsInstance(node.ctx, ast.Load, (path, function.name))

    def test_generators(self):
        generators = [function for function in functions() if is_generator(function)]
        names = [function.name for function in functions()]
        for function in generators:
            self.assertEqual(names.count(function.name), 1, function.name)
            self.assertNotIn(function.name, METHODS)
            self.assertEqual(function.decorator_list, [])
        generator_names = [function.name for function in generators]
        for path, tree in TREES.items():
            above = parents(tree)
            for node in ast.walk(tree):
                called = isinstance(node, ast.Call) and (
                    node.func.attr if isinstance(node.func, ast.Attribute) else called_name(node))
                if called in generator_names:
                    self.assertTrue(is_iterated(node, above[node]), (path, node.lineno))

    def test_methods_and_attributes(self):
        stored = {name for made in classes().values() for name in stored_attributes(made)}
        for made in classes().values():
            names = [method.name for method in methods(made)]
            self.assertEqual(len(names), len(set(names)), made.name)
            self.assertEqual(set(names) & stored_attributes(made), set(), made.name)
            for method in methods(made):
                if method.decorator_list or is_generator(method):
                    self.assertNotIn(method.name, stored, made.name)
        for path, node in nodes(ast.Attribute):
            known = stored | {function.name for function in functions()} | set(METHODS)
            known |= {"__class__", "__name__", "__init__", "MOST", "GONE", "KIND"}
            self.assertIn(node.attr, known, (path, node.lineno))

    def test_bases(self):
        own = classes()
        for made in own.values():
            for base in made.bases:
                self.assertIn(base.id, sorted(own) + ["ValueError", "LookupError", "RuntimeError", "ArithmeticError"])
            self.assertEqual((made.decorator_list, made.keywords), ([], []))


def property_names():
    return [function.name for function in functions()
            if any(ast.unparse(part) == "property" for part in function.decorator_list)]


if __name__ == "__main__":
    unittest.main()
