"""The rules of the Python subset that can be read off the files of the package."""

import ast
import builtins
import pathlib
import re
import unittest

FOLDER = pathlib.Path(__file__).resolve().parent.parent / "giveways"
BUILTINS = set("""len range enumerate zip min max sum abs sorted reversed int str bool bytes list tuple dict set
    frozenset isinstance ord repr any all divmod Exception ValueError TypeError KeyError IndexError LookupError
    ZeroDivisionError ArithmeticError OverflowError RuntimeError NotImplementedError AttributeError StopIteration
    NotImplemented property staticmethod classmethod super iter next map object""".split())
METHODS = set("""append clear copy count endswith extend find get index insert isalnum isalpha isdigit islower isspace
    isupper items join keys ljust lower lstrip partition pop remove replace reverse rfind rjust rpartition rsplit
    rstrip setdefault split splitlines startswith strip update upper values zfill bit_length title capitalize swapcase
    casefold center expandtabs removeprefix removesuffix rindex isascii isdecimal isnumeric istitle isidentifier
    isprintable add discard encode""".split())
LIBRARY = {
    "heapq": {"heappush", "heappop", "heapify", "heapreplace", "heappushpop"},
    "math": {"gcd", "lcm", "isqrt", "comb", "perm", "factorial"},
    "itertools": {"product", "combinations", "permutations"},
}
BARRED_WORDS = set("""type typing typing_extensions enum Enum IntEnum StrEnum Flag IntFlag Generic Protocol ABC ABCMeta
    namedtuple NamedTuple TypedDict TYPE_CHECKING abstractmethod""".split())
BARRED_NAMES = set("""register mro elements open input law version_info with_traceback add_note attrgetter breakpoint
    builtins compile copyright credits delattr dir eval exec exit gc getattr globals hasattr help id importlib license
    locals methodcaller os quit setattr super type vars sys __name__""".split())
STATEMENTS = (
    ast.FunctionDef, ast.ClassDef, ast.Assign, ast.AugAssign, ast.AnnAssign, ast.If, ast.While, ast.For, ast.Return,
    ast.Break, ast.Continue, ast.Pass, ast.Raise, ast.Assert, ast.Delete, ast.Nonlocal, ast.Match, ast.With, ast.Try,
    ast.Expr, ast.ImportFrom,
)
LISTED = ("any", "all", "min", "max", "sum", "sorted")


class Language(unittest.TestCase):
    @classmethod
    def setUpClass(cls):
        cls.texts = {path.stem: path.read_text(encoding="utf-8") for path in sorted(FOLDER.glob("*.py"))}
        cls.trees = {name: ast.parse(text) for name, text in cls.texts.items()}
        cls.defined = {
            name: {node.name for node in tree.body if isinstance(node, (ast.FunctionDef, ast.ClassDef))}
            | {node.targets[0].id for node in tree.body if isinstance(node, ast.Assign)}
            for name, tree in cls.trees.items()
        }
        cls.methods = {
            node.name for tree in cls.trees.values() for part in tree.body if isinstance(part, ast.ClassDef)
            for node in part.body if isinstance(node, ast.FunctionDef)
        }

    def nodes(self, *kinds):
        for name, tree in self.trees.items():
            for node in ast.walk(tree):
                if isinstance(node, kinds):
                    yield f"{name}:{getattr(node, 'lineno', 0)}", node

    def test_files(self):
        for path in FOLDER.rglob("*"):
            if "__pycache__" not in path.parts:
                self.assertRegex(path.name, r"^[a-z0-9_]+\.py$")
        self.assertLessEqual(len(self.texts), 100)
        self.assertIn("__init__", self.texts)

    def test_characters_and_sizes(self):
        for name, text in self.texts.items():
            self.assertRegex(text, r"\A[ -~\n]*\Z", name)
            self.assertLessEqual(len(text.splitlines()), 399, name)
            self.assertLessEqual(max(map(len, text.splitlines())), 120, name)
            self.assertFalse(re.search(r" $", text, re.M), name)
        for place, node in self.nodes(ast.FunctionDef):
            self.assertLessEqual(node.end_lineno - node.lineno + 1, 40, place)

    def test_imports(self):
        ahead = {}
        for name, tree in self.trees.items():
            found = [node for node in ast.walk(tree) if isinstance(node, (ast.Import, ast.ImportFrom))]
            self.assertEqual(found, [node for node in tree.body if isinstance(node, ast.ImportFrom)], name)
            ahead[name] = set()
            for node in found:
                for part in node.names:
                    self.assertIsNone(part.asname)
                    if node.module in LIBRARY:
                        self.assertIn(part.name, LIBRARY[node.module])
                    else:
                        stem = node.module.removeprefix("giveways.")
                        self.assertIn(part.name, self.defined[stem], name)
                        ahead[name].add(stem)
        while ahead:
            free = [name for name in ahead if not ahead[name] & set(ahead)]
            self.assertTrue(free, "files that import from each other")
            ahead = {name: ahead[name] for name in ahead if name not in free}

    def test_imported_names_are_used(self):
        for name, tree in self.trees.items():
            used = {node.id for node in ast.walk(tree) if isinstance(node, ast.Name)}
            for node in tree.body:
                if isinstance(node, ast.ImportFrom):
                    self.assertEqual([part.name for part in node.names if part.name not in used], [], name)

    def test_statements(self):
        for place, node in self.nodes(ast.stmt):
            self.assertIsInstance(node, STATEMENTS, place)
        for place, node in self.nodes(ast.Set, ast.AsyncFor, ast.Await, ast.Div, ast.Global):
            self.assertIsInstance(node, ast.Set, place)
        for name, tree in self.trees.items():
            for node in tree.body:
                self.assertIsInstance(node, (ast.ImportFrom, ast.FunctionDef, ast.ClassDef, ast.Assign, ast.Expr), name)
                if isinstance(node, ast.Assign):
                    self.assertEqual(len(node.targets), 1)
                    self.assertIsInstance(node.targets[0], ast.Name)
                    self.assertFalse([part for part in ast.walk(node.value) if isinstance(part, ast.Call)])

    def test_no_decorators(self):
        for place, node in self.nodes(ast.FunctionDef, ast.ClassDef):
            for mark in node.decorator_list:
                self.assertIn(ast.unparse(mark).split(".")[-1], ("property", "setter", "staticmethod", "classmethod"))

    def test_literals(self):
        for place, node in self.nodes(ast.Constant):
            self.assertNotIsInstance(node.value, (float, complex), place)
            if isinstance(node.value, str):
                self.assertNotIn("%", node.value, place)

    def test_names(self):
        for name, tree in self.trees.items():
            given = {node.id for node in ast.walk(tree) if isinstance(node, ast.Name) and isinstance(node.ctx, ast.Store)}
            given |= {node.arg for node in ast.walk(tree) if isinstance(node, ast.arg)}
            functions = {node.name for node in ast.walk(tree) if isinstance(node, ast.FunctionDef)}
            plain = {node.name for node in tree.body if isinstance(node, (ast.FunctionDef, ast.ClassDef))}
            imported = {part.name for node in tree.body if isinstance(node, ast.ImportFrom) for part in node.names}
            classes = {node.name for node in tree.body if isinstance(node, ast.ClassDef)}
            self.assertFalse((given | plain) & set(dir(builtins)) - {"_"}, name)
            self.assertFalse((given | functions | plain) & BARRED_NAMES, name)
            self.assertFalse(given & (imported | classes), name)
            for word in given | plain:
                self.assertFalse(word.startswith("__"), word)
            used = {node.id for node in ast.walk(tree) if isinstance(node, ast.Name) and isinstance(node.ctx, ast.Load)}
            self.assertFalse(used - given - functions - imported - classes - BUILTINS, name)
            self.assertNotIn("_", used)

    def test_barred_words(self):
        for name, tree in self.trees.items():
            spoken = {node.value for node in ast.walk(tree) if isinstance(node, ast.Constant) and isinstance(node.value, str)}
            spoken -= {ast.get_docstring(node, clean=False) for node in ast.walk(tree)
                       if isinstance(node, (ast.Module, ast.FunctionDef, ast.ClassDef))}
            named = {node.id for node in ast.walk(tree) if isinstance(node, ast.Name)}
            named |= {node.attr for node in ast.walk(tree) if isinstance(node, ast.Attribute)}
            words = {word for text in spoken | named for word in re.findall(r"\w+", text)}
            self.assertFalse(words & (BARRED_WORDS - {"type"}), name)
            self.assertNotIn("type", named)
            for word in ("dataclass", "overload", "contextmanager"):
                self.assertNotIn(word, self.texts[name])

    def test_calls_of_methods(self):
        for place, node in self.nodes(ast.Call):
            if isinstance(node.func, ast.Attribute):
                self.assertIn(node.func.attr, METHODS | self.methods, place)
            if isinstance(node.func, ast.Name) and node.func.id in LISTED:
                self.assertFalse([arg for arg in node.args if isinstance(arg, ast.GeneratorExp)], place)

    def test_is(self):
        for place, node in self.nodes(ast.Compare):
            for sign, other in zip(node.ops, node.comparators):
                if isinstance(sign, (ast.Is, ast.IsNot)):
                    self.assertIn(ast.unparse(other), ("None", "True", "False"), place)

    def test_raise_makes_its_error_on_the_spot(self):
        for place, node in self.nodes(ast.Raise):
            if node.exc is not None:
                self.assertIsInstance(node.exc, ast.Call, place)
                self.assertIn(node.exc.func.id, self.defined["errors"] | BUILTINS, place)

    def test_each_function_and_class_says_what_it_is_for(self):
        for place, node in self.nodes(ast.FunctionDef, ast.ClassDef, ast.Module):
            if not isinstance(node, ast.FunctionDef) or not node.name.startswith("__"):
                self.assertTrue(ast.get_docstring(node), place)

    def test_interface_functions_stand_in_their_files(self):
        self.assertLessEqual({"begin", "told", "is_fair"}, self.defined["houses"])
        self.assertLessEqual({"is_step", "is_house", "with_room"}, self.defined["scripts"])
        self.assertLessEqual({"HouseError", "Unfit"}, self.defined["errors"])
        self.assertLessEqual({"Watch", "changed"}, self.defined["watch"])
        self.assertLessEqual({"Board"}, self.defined["board"])

    def test_tables_at_module_level(self):
        for name, tree in self.trees.items():
            above = set()
            for node in tree.body:
                if isinstance(node, ast.FunctionDef):
                    above.add(node.name)
                if isinstance(node, ast.Assign):
                    named = {part.id for part in ast.walk(node.value) if isinstance(part, ast.Name)}
                    self.assertLessEqual(named, above, name)
                    parts = [part for part in ast.walk(node.value) if part is not node.value]
                    self.assertFalse([part for part in parts if isinstance(part, (ast.List, ast.Dict))], name)
                    self.assertFalse([part for part in ast.walk(node.value) if isinstance(part, (ast.BinOp, ast.Starred))], name)


class Places(unittest.TestCase):
    """L23 and L24: where what is iterated at once, and sets, may stand."""

    AT_ONCE = ("zip", "enumerate", "reversed", "range", "items", "keys", "values")
    TAKERS = ("list", "tuple", "dict", "sorted", "sum", "any", "all", "enumerate", "zip", "reversed", "len", "min", "max")
    CHANGING = ("append", "clear", "extend", "insert", "pop", "remove", "reverse", "setdefault", "update", "sort")

    @classmethod
    def setUpClass(cls):
        cls.trees = {path.stem: ast.parse(path.read_text(encoding="utf-8")) for path in sorted(FOLDER.glob("*.py"))}

    def nodes(self):
        for name, tree in self.trees.items():
            parents = {part: node for node in ast.walk(tree) for part in ast.iter_child_nodes(node)}
            for node in ast.walk(tree):
                yield f"{name}:{getattr(node, 'lineno', 0)}", node, parents.get(node)

    @staticmethod
    def called(node):
        if not isinstance(node, ast.Call):
            return None
        return node.func.id if isinstance(node.func, ast.Name) else getattr(node.func, "attr", None)

    def test_iterated_at_once(self):
        for place, node, parent in self.nodes():
            if self.called(node) in self.AT_ONCE:
                is_looped = isinstance(parent, (ast.For, ast.comprehension)) and parent.iter is node
                is_taken = self.called(parent) in self.TAKERS and parent.args[0] is node
                self.assertTrue(is_looped or is_taken, place)
                if self.called(parent) == "reversed":
                    self.assertEqual(self.called(node), "range", place)

    def test_sets(self):
        for place, node, parent in self.nodes():
            if isinstance(node, (ast.Set, ast.SetComp)) or self.called(node) == "set":
                self.assertIn(self.called(parent), ("sorted", "len"), place)

    def test_what_is_looped_over_is_not_changed(self):
        for place, node, _ in self.nodes():
            if isinstance(node, ast.For):
                looped = {ast.unparse(part) for part in ast.walk(node.iter) if isinstance(part, (ast.Name, ast.Attribute))}
                for part in [inner for row in node.body for inner in ast.walk(row)]:
                    if isinstance(part, ast.Call) and isinstance(part.func, ast.Attribute) and part.func.attr in self.CHANGING:
                        self.assertNotIn(ast.unparse(part.func.value), looped, place)
                    for target in getattr(part, "targets", []):
                        if isinstance(target, ast.Subscript):
                            self.assertNotIn(ast.unparse(target.value), looped, place)

    def test_extended_by_something_else(self):
        for place, node, _ in self.nodes():
            if self.called(node) in ("extend", "update"):
                told = {ast.unparse(part) for arg in node.args for part in ast.walk(arg) if isinstance(part, ast.Name)}
                self.assertNotIn(ast.unparse(node.func.value), told, place)

    def test_no_class_has_the_attributes_of_later_ones(self):
        for place, node, _ in self.nodes():
            if isinstance(node, ast.Attribute):
                self.assertNotIn(node.attr, ("keys", "sort", "__class__", "__name__"), place)


class Objects(unittest.TestCase):
    """L5, L7, L18, L19, L28: what a package with __eq__, __len__, __getitem__ and properties may not do anywhere."""

    DUNDERS = {"__init__": None, "__len__": 1, "__eq__": 2, "__contains__": 2, "__getitem__": 2, "__iter__": 1}
    PLAIN_CALLS = ("tuple", "sorted", "len", "isinstance", "NoHouse", "TypeError")

    @classmethod
    def setUpClass(cls):
        cls.texts = {path.stem: path.read_text(encoding="utf-8") for path in sorted(FOLDER.glob("*.py"))}
        cls.trees = {name: ast.parse(text) for name, text in cls.texts.items()}
        cls.classes = [(name, node) for name, tree in cls.trees.items() for node in tree.body if isinstance(node, ast.ClassDef)]

    def methods(self):
        for name, kind in self.classes:
            for node in kind.body:
                if isinstance(node, ast.FunctionDef):
                    yield f"{name}:{node.lineno}", kind, node

    def test_double_underscores_and_properties_change_nothing(self):
        for place, _, node in self.methods():
            is_property = [mark.id for mark in node.decorator_list] == ["property"]
            if node.name.startswith("__"):
                self.assertIn(node.name, self.DUNDERS, place)
                self.assertEqual(node.decorator_list, [])
                many = self.DUNDERS[node.name]
                self.assertTrue(many is None or len(node.args.args) == many, place)
            if is_property or node.name in self.DUNDERS and node.name != "__init__":
                for part in ast.walk(node):
                    self.assertNotIsInstance(part, (ast.Assign, ast.AugAssign, ast.Delete, ast.For, ast.While), place)
                    if isinstance(part, ast.Call):
                        self.assertIn(getattr(part.func, "id", None), self.PLAIN_CALLS, place)
            if node.name == "__len__":
                self.assertEqual([type(row) for row in node.body], [ast.Return])
                self.assertEqual(node.body[0].value.func.id, "len")
            if node.name == "__iter__":
                self.assertEqual([type(row) for row in node.body], [ast.Raise])

    def test_one_name_for_one_thing(self):
        named = {}
        for _, kind, node in self.methods():
            key = "property" if node.decorator_list else "method"
            named.setdefault(node.name, set()).add(key)
            own = [other.name for other in kind.body if isinstance(other, ast.FunctionDef)]
            self.assertEqual(len(own), len(set(own)))
            stored = {part.attr for part in ast.walk(kind) if isinstance(part, ast.Attribute) and isinstance(part.ctx, ast.Store)}
            self.assertFalse(stored & set(own), kind.name)
        self.assertFalse([name for name, kinds in named.items() if len(kinds) > 1])
        stored = {part.attr for _, kind in self.classes for part in ast.walk(kind)
                  if isinstance(part, ast.Attribute) and isinstance(part.ctx, ast.Store)}
        self.assertFalse(stored & {name for name, kinds in named.items() if "property" in kinds})
        self.assertNotIn("keys", set(named) | stored)
        builtin = {name for kind in (str, int, list, dict, set, bytes, tuple) for name in dir(kind)}
        self.assertFalse((set(named) - set(self.DUNDERS)) & builtin)

    def test_own_errors_alone_are_caught(self):
        own = {node.name for node in self.trees["errors"].body if isinstance(node, ast.ClassDef)}
        for name, tree in self.trees.items():
            for node in ast.walk(tree):
                if isinstance(node, ast.ExceptHandler):
                    self.assertIn(node.type.id, own, name)
                    self.assertIsNone(node.name, name)
                if isinstance(node, ast.Try):
                    self.assertEqual((node.finalbody, node.orelse), ([], []), name)

    def test_no_generators_and_no_sort(self):
        for name, tree in self.trees.items():
            for node in ast.walk(tree):
                self.assertNotIsInstance(node, (ast.GeneratorExp, ast.Yield, ast.YieldFrom, ast.NamedExpr, ast.Match, ast.With), name)
                if isinstance(node, ast.Set):
                    self.assertFalse([part for part in node.elts if isinstance(part, ast.Starred)], name)
                if isinstance(node, ast.Attribute):
                    self.assertNotIn(node.attr, ("sort", "setdefault"), name)
                if isinstance(node, ast.Call) and getattr(node.func, "id", None) in ("next", "iter", "map", "frozenset", "bytes"):
                    self.fail(name)

    def test_words_barred_beside_brackets_behind_objects(self):
        for name, text in self.texts.items():
            for word in ("(type)", "Meta", "metaclass="):
                self.assertNotIn(word, text, name)

    def test_calls_with_stars(self):
        for name, tree in self.trees.items():
            for node in ast.walk(tree):
                if isinstance(node, ast.Call):
                    for part in node.args:
                        if isinstance(part, ast.Starred):
                            self.assertIsInstance(part.value, (ast.Name, ast.Attribute), name)
                            rest = node.args[node.args.index(part) + 1:]
                            self.assertTrue(all(isinstance(other, (ast.Name, ast.Constant)) for other in rest), name)
                    for key in node.keywords:
                        self.assertIn(key.arg, ("key", "default", "start", "reverse"), name)

    def test_strings_in_braces(self):
        for name, tree in self.trees.items():
            for node in ast.walk(tree):
                if isinstance(node, ast.JoinedStr):
                    self.assertEqual(node.lineno, node.end_lineno, name)
                    for part in node.values:
                        if isinstance(part, ast.FormattedValue):
                            inner = [other for other in ast.walk(part.value) if isinstance(other, ast.Constant)]
                            self.assertFalse([other for other in inner if isinstance(other.value, str)], name)
                        else:
                            self.assertNotIn("__", part.value, name)

    def test_names_in_comprehensions(self):
        """A comprehension within another one names nothing that is assigned around it."""
        kinds = (ast.ListComp, ast.SetComp, ast.DictComp)

        def targets(node):
            return {part.id for row in node.generators for part in ast.walk(row.target) if isinstance(part, ast.Name)}
        for name, tree in self.trees.items():
            for function in [node for node in ast.walk(tree) if isinstance(node, ast.FunctionDef)]:
                given = {arg.arg for arg in function.args.args}
                inside = {id(part) for node in ast.walk(function) if isinstance(node, kinds) for part in ast.walk(node)}
                given |= {part.id for part in ast.walk(function) if isinstance(part, ast.Name) and isinstance(part.ctx, ast.Store)
                          and id(part) not in inside}
                for outer in [node for node in ast.walk(function) if isinstance(node, kinds)]:
                    for inner in [node for node in ast.walk(outer) if isinstance(node, kinds) and node is not outer]:
                        self.assertFalse(targets(inner) & (given | targets(outer)), (name, function.name))

    def test_lambdas_on_one_line(self):
        for name, tree in self.trees.items():
            lines = [node.lineno for node in ast.walk(tree) if isinstance(node, ast.Lambda)]
            self.assertEqual(len(lines), len(set(lines)), name)

    def test_functions_take_what_they_are_passed(self):
        """Calls by bare names, without stars: as many arguments as the function or class of the package takes."""
        taken = {}
        for tree in self.trees.values():
            for node in tree.body:
                if isinstance(node, ast.FunctionDef):
                    taken.setdefault(node.name, set()).add(len(node.args.args))
                    self.assertEqual(node.args.defaults, [])
                if isinstance(node, ast.ClassDef):
                    starts = [part for part in node.body if isinstance(part, ast.FunctionDef) and part.name == "__init__"]
                    taken.setdefault(node.name, set()).add(len(starts[0].args.args) - 1 if starts else 0)
        for name, tree in self.trees.items():
            for node in ast.walk(tree):
                if isinstance(node, ast.Call) and isinstance(node.func, ast.Name) and node.func.id in taken:
                    if not [part for part in node.args if isinstance(part, ast.Starred)]:
                        self.assertIn(len(node.args) + len(node.keywords), taken[node.func.id], (name, node.func.id))
