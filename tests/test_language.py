"""Whether the files of the package keep to those rules of LANGUAGE.md that a test can see easily."""

import ast
import builtins
import pathlib
import re
import unittest

FOLDER = pathlib.Path(__file__).resolve().parent.parent / "laterknown"
FILES = sorted([path for path in FOLDER.rglob("*.py")])

BUILTINS = set(
    "len range enumerate zip min max sum abs sorted reversed int str bool bytes list tuple dict set frozenset "
    "isinstance ord repr any all divmod Exception ValueError TypeError KeyError IndexError LookupError "
    "ZeroDivisionError ArithmeticError OverflowError RuntimeError NotImplementedError AttributeError StopIteration "
    "NotImplemented iter next map super property staticmethod classmethod".split(" ")
)
METHODS = set(
    "append clear copy count endswith extend find get index insert isalnum isalpha isdigit islower isspace isupper "
    "items join keys ljust lower lstrip partition pop remove replace reverse rfind rjust rpartition rsplit rstrip "
    "setdefault split splitlines startswith strip update upper values zfill bit_length add discard sort removeprefix "
    "removesuffix isascii".split(" ")
)
SPECIAL_METHODS = set(
    "__init__ __eq__ __repr__ __str__ __len__ __enter__ __exit__ __call__ __iter__ __or__ __bool__ __contains__ "
    "__getitem__ __setitem__".split(" ")
)
BARRED_NAMES = set(
    "register mro elements open input law version_info with_traceback add_note attrgetter breakpoint builtins compile "
    "copyright credits delattr dir eval exec exit gc getattr globals hasattr help id importlib license locals "
    "methodcaller os quit setattr super type vars sys".split(" ")
)
BARRED_WORDS = (
    "type", "typing", "typing_extensions", "enum", "Enum", "IntEnum", "StrEnum", "Flag", "IntFlag", "Generic",
    "Protocol", "ABC", "ABCMeta", "namedtuple", "NamedTuple", "TypedDict", "TYPE_CHECKING", "abstractmethod",
)
BARRED_ATTRIBUTES = set(
    "items keys values pop update append clear extend insert remove reverse setdefault sort args encode decode hex "
    "fromhex format format_map mro".split(" ")
)
BARRED_NODES = (
    ast.Global, ast.AsyncFunctionDef, ast.AsyncFor, ast.AsyncWith, ast.Await, ast.Import, ast.Div, ast.Set,
    ast.GeneratorExp,
)


def tree_of(path):
    return ast.parse(path.read_text(encoding="utf-8"))


TREES = {path: tree_of(path) for path in FILES}


def nodes(*kinds):
    for path, tree in TREES.items():
        for node in ast.walk(tree):
            if isinstance(node, kinds):
                yield path.name, node


def functions():
    return nodes(ast.FunctionDef, ast.Lambda)


def defined_in(tree):
    names = []
    for node in tree.body:
        if isinstance(node, (ast.FunctionDef, ast.ClassDef)):
            names.append(node.name)
        if isinstance(node, ast.Assign):
            names += [target.id for target in node.targets]
    return names


def is_table_of_functions(node, tree):
    own = [one.name for one in tree.body if isinstance(one, ast.FunctionDef)]
    return isinstance(node, ast.Dict) and all(isinstance(one, ast.Name) and one.id in own for one in node.values)


def imported_in(tree):
    return [alias.name for node in tree.body if isinstance(node, ast.ImportFrom) for alias in node.names]


def properties():
    found = set()
    for _, node in nodes(ast.ClassDef):
        for part in node.body:
            if isinstance(part, ast.FunctionDef) and "property" in [name.id for name in part.decorator_list]:
                found.add(part.name)
    return found


class FilesTest(unittest.TestCase):
    def test_there_are_files(self):
        self.assertIn("programs.py", [path.name for path in FILES])

    def test_names_of_files(self):
        for path in FILES:
            self.assertRegex(path.name, r"^(__init__|[a-z][a-z0-9_]*)\.py$")
            self.assertEqual(path.parent, FOLDER)
            self.assertNotIn(path.stem, dir(builtins))

    def test_sizes_and_characters(self):
        for path in FILES:
            text = path.read_text(encoding="utf-8")
            self.assertLessEqual(text.count("\n"), 399, path.name)
            self.assertLessEqual(max([len(line) for line in text.split("\n")]), 120, path.name)
            self.assertRegex(text, r"\A[ -~\n]*\Z", path.name)
            for word in ("(type)", "Meta", "metaclass=", "_wall", "_WallAttr"):
                self.assertNotIn(word, text, path.name)

    def test_sizes_of_functions(self):
        for name, node in functions():
            self.assertLessEqual(node.end_lineno - node.lineno + 1, 40, (name, node.lineno))

    def test_every_function_says_what_it_does(self):
        for name, node in nodes(ast.FunctionDef, ast.ClassDef):
            if not node.name.startswith("_"):
                self.assertIsNotNone(ast.get_docstring(node), (name, node.name))


class ModulesTest(unittest.TestCase):
    def test_what_stands_at_module_level(self):
        for path, tree in TREES.items():
            names = defined_in(tree) + imported_in(tree)
            self.assertEqual(len(names), len(set(names)), path.name)
            for node in tree.body:
                self.assertIsInstance(
                    node, (ast.ImportFrom, ast.FunctionDef, ast.ClassDef, ast.Assign, ast.Expr), path.name)
                if isinstance(node, ast.Assign):
                    # What is written there is a plain value, or a table of functions.
                    if not is_table_of_functions(node.value, tree):
                        ast.literal_eval(node.value)
                    self.assertEqual(len(node.targets), 1)

    def test_imports_name_what_the_file_defines(self):
        for path, tree in TREES.items():
            for node in tree.body:
                if isinstance(node, ast.ImportFrom):
                    self.assertEqual(node.level, 0)
                    self.assertRegex(node.module, r"^laterknown\.[a-z_]+$")
                    defined = defined_in(TREES[FOLDER / (node.module.split(".")[1] + ".py")])
                    for alias in node.names:
                        self.assertIn(alias.name, defined, path.name)
                        self.assertIsNone(alias.asname)

    def test_imports_have_no_rings(self):
        leads = {
            path.stem: [node.module.split(".")[1] for node in tree.body if isinstance(node, ast.ImportFrom)]
            for path, tree in TREES.items()
        }
        while leads:
            ends = [name for name in leads if not [further for further in leads[name] if further in leads]]
            self.assertTrue(ends, leads)
            for name in ends:
                del leads[name]

    def test_all_that_is_imported_is_used(self):
        for path, tree in TREES.items():
            used = [node.id for node in ast.walk(tree) if isinstance(node, ast.Name)]
            for name in imported_in(tree):
                self.assertIn(name, used, path.name)


class NamesTest(unittest.TestCase):
    def bound_names(self):
        """Variables, parameters, functions and classes."""
        for name, node in nodes(ast.Name):
            if isinstance(node.ctx, ast.Store):
                yield name, node.id
        for name, node in nodes(ast.arg):
            yield name, node.arg
        for name, node in nodes(ast.ClassDef):
            yield name, node.name

    def test_names_are_plain_and_not_barred(self):
        for name, bound in self.bound_names():
            self.assertRegex(bound, r"^(_|_?[A-Za-z][A-Za-z0-9_]*)$", name)
            self.assertNotIn(bound, BARRED_NAMES, name)
            self.assertNotIn(bound, dir(builtins), name)
        for name, node in nodes(ast.FunctionDef):
            if node.name.startswith("__"):
                self.assertIn(node.name, SPECIAL_METHODS, name)
            else:
                self.assertNotIn(node.name, BARRED_NAMES, name)
        for path, tree in TREES.items():
            for defined in defined_in(tree):
                self.assertNotIn(defined, dir(builtins), path.name)

    def test_locals_are_not_called_like_classes_or_imports(self):
        for path, tree in TREES.items():
            taken = imported_in(tree) + [node.name for node in tree.body if isinstance(node, ast.ClassDef)]
            inner = [node.arg for node in ast.walk(tree) if isinstance(node, ast.arg)]
            for node in ast.walk(tree):
                if isinstance(node, ast.FunctionDef):
                    inner += [one.id for one in ast.walk(node) if isinstance(one, ast.Name) and
                              isinstance(one.ctx, ast.Store)]
            self.assertEqual([word for word in inner if word in taken], [], path.name)

    def test_builtins(self):
        for name, node in nodes(ast.Name):
            if isinstance(node.ctx, ast.Load) and node.id in dir(builtins):
                self.assertIn(node.id, BUILTINS, (name, node.lineno))

    def test_methods(self):
        own = [node.name for _, node in nodes(ast.FunctionDef)]
        for name, node in nodes(ast.Call):
            if isinstance(node.func, ast.Attribute):
                self.assertIn(node.func.attr, METHODS | set(own), (name, node.lineno))

    def test_attributes(self):
        read_only = properties()
        methods = [part.name for _, node in nodes(ast.ClassDef) for part in node.body
                   if isinstance(part, ast.FunctionDef)]
        stored = [(name, node.attr) for name, node in nodes(ast.Attribute) if isinstance(node.ctx, ast.Store)]
        for name, attribute in stored:
            self.assertNotIn(attribute, BARRED_ATTRIBUTES, name)
            self.assertNotIn(attribute, read_only, name)
            self.assertNotIn(attribute, methods, name)
        for name, node in nodes(ast.Attribute):
            if isinstance(node.ctx, ast.Load):
                known = METHODS | set(methods) | {attribute for _, attribute in stored}
                self.assertIn(node.attr, known, (name, node.lineno))

    def test_words_that_do_not_occur(self):
        for path, tree in TREES.items():
            texts = [node.value for node in ast.walk(tree)
                     if isinstance(node, ast.Constant) and isinstance(node.value, str)]
            docs = [ast.get_docstring(node, clean=False) for node in ast.walk(tree)
                    if isinstance(node, (ast.Module, ast.ClassDef, ast.FunctionDef))]
            names = [node.id for node in ast.walk(tree) if isinstance(node, ast.Name)]
            for text in [text for text in texts if text not in docs] + names:
                for word in BARRED_WORDS:
                    self.assertNotIn(word, re.findall(r"\w+", text), path.name)
                self.assertNotIn("%", text, path.name)
                self.assertNotRegex(text, r"\._+\Z")


class StatementsTest(unittest.TestCase):
    def test_nodes_that_are_not_used(self):
        for name, node in nodes(*BARRED_NODES):
            self.fail((name, node.lineno, ast.dump(node)))

    def test_constants(self):
        for name, node in nodes(ast.Constant):
            self.assertIsInstance(node.value, (int, str, bool, tuple, None.__class__), name)

    def test_assertions_of_identity(self):
        for name, node in nodes(ast.Compare):
            for sign, other in zip(node.ops, node.comparators):
                if isinstance(sign, (ast.Is, ast.IsNot)):
                    self.assertIsInstance(other, ast.Constant, (name, node.lineno))

    def test_raise_creates_its_error(self):
        for name, node in nodes(ast.Raise):
            self.assertIsInstance(node.exc, ast.Call, (name, node.lineno))
            self.assertRegex(node.exc.func.id, r"^[A-Z]")

    def test_names_of_sets(self):
        for name, node in nodes(ast.Call):
            if isinstance(node.func, ast.Name):
                self.assertNotIn(node.func.id, ("set", "frozenset", "bytes", "map", "iter", "next"), name)

    def test_results_of_items_are_iterated_at_once(self):
        at_once = set()
        for _, node in nodes(ast.For, ast.comprehension):
            at_once.add(node.iter)
        for _, node in nodes(ast.Call):
            if isinstance(node.func, ast.Name) and node.func.id in ("list", "tuple", "dict", "sorted", "enumerate", "zip"):
                at_once.update(node.args)
        for name, node in nodes(ast.Call):
            word = node.func.id if isinstance(node.func, ast.Name) else node.func.attr
            if word in ("zip", "enumerate", "reversed", "range", "items", "values") or (
                    word == "keys" and isinstance(node.func, ast.Attribute)):
                self.assertIn(node, at_once, (name, node.lineno))

    def test_loops_do_not_modify_what_they_iterate_over(self):
        modifying = set("append clear extend insert pop remove reverse setdefault update add discard sort".split(" "))
        for name, node in nodes(ast.For):
            iterated = {ast.dump(node.iter)}
            if isinstance(node.iter, ast.Call):
                is_method = isinstance(node.iter.func, ast.Attribute)
                inner = [node.iter.func.value] if is_method else node.iter.args
                if is_method or node.iter.func.id not in ("list", "tuple", "sorted"):
                    iterated |= {ast.dump(one) for one in inner}
            for part in [each for row in node.body for each in ast.walk(row)]:
                changed = []
                if isinstance(part, ast.Subscript) and not isinstance(part.ctx, ast.Load):
                    changed.append(part.value)
                if isinstance(part, ast.Call) and isinstance(part.func, ast.Attribute) and part.func.attr in modifying:
                    changed.append(part.func.value)
                for one in changed:
                    self.assertNotIn(ast.dump(one).replace("Store()", "Load()"), iterated, (name, part.lineno))

    def test_generators_have_names_of_their_own(self):
        defined = [node.name for _, node in nodes(ast.FunctionDef)]
        for name, node in nodes(ast.FunctionDef):
            if [part for part in ast.walk(node) if isinstance(part, (ast.Yield, ast.YieldFrom))]:
                self.assertEqual(defined.count(node.name), 1, (name, node.name))
                self.assertNotIn(node.name, METHODS)
                for part in ast.walk(node):
                    if isinstance(part, (ast.Try, ast.With)):
                        self.assertEqual([one for one in ast.walk(part) if isinstance(one, ast.Yield)], [], name)

    def test_attributes_are_assigned_through_a_local_name(self):
        for name, node in nodes(ast.Attribute):
            if isinstance(node.ctx, ast.Store):
                self.assertIsInstance(node.value, ast.Name, (name, node.lineno))

    def test_reversed_goes_over_what_is_plainly_a_sequence(self):
        for name, node in nodes(ast.Call):
            if isinstance(node.func, ast.Name) and node.func.id == "reversed":
                self.assertEqual(len(node.args), 1, (name, node.lineno))
                whole = node.args[0]
                is_made = isinstance(whole, ast.Call) and isinstance(whole.func, ast.Name) and whole.func.id in (
                    "list", "tuple", "sorted", "range")
                self.assertTrue(is_made or isinstance(whole, (ast.List, ast.Tuple)), (name, node.lineno))


class ClassesTest(unittest.TestCase):
    def test_methods_of_classes(self):
        for name, node in nodes(ast.ClassDef):
            methods = [part.name for part in node.body if isinstance(part, ast.FunctionDef)]
            self.assertEqual(len(methods), len(set(methods)), (name, node.name))
            if "__getitem__" in methods:
                self.assertIn("__iter__", methods, (name, node.name))

    def test_properties_are_not_called_like_methods(self):
        own = [part.name for _, node in nodes(ast.ClassDef) for part in node.body
               if isinstance(part, ast.FunctionDef) and not part.decorator_list]
        for name in properties():
            self.assertNotIn(name, own)
            self.assertNotIn(name, METHODS)


INTERFACE = {
    "errors": "LaterError BadRecord NoField BadKinds NoKind BadProgram Doubled Unnamed RingOfNames",
    "values": "Record is_value alike",
    "kinds": "read_kinds show_kinds Kinds Kind",
    "programs": "read_program show_program shows_ring Program",
    "states": "State Entry Row state_of",
    "outcomes": "outcome Outcome",
    "stages": "plan Plan",
    "telling": "Later judged",
    "evidence": "why shows_why",
    "worlds": "World",
    "drift": "drift",
    "house": "House Trial tried",
    "moving": "suggested_moves shows_moves",
    "texts": "show_state show_plan read_state",
    "desk": "Desk",
    "refactoring": "quiet loud shows_loud renamed counted split wrapped",
}


class InterfaceTest(unittest.TestCase):
    def test_names_are_defined_in_their_files(self):
        for stem, names in INTERFACE.items():
            tree = TREES[FOLDER / f"{stem}.py"]
            defined = [node.name for node in tree.body if isinstance(node, (ast.FunctionDef, ast.ClassDef))]
            for name in names.split(" "):
                self.assertIn(name, defined, stem)


if __name__ == "__main__":
    unittest.main()
