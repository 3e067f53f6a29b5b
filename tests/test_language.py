"""The rules of the Python subset that can be seen in the files of the package."""

import ast
import builtins
import pathlib
import re
import unittest

PACKAGE = pathlib.Path(__file__).resolve().parent.parent / "callsover"
FILES = sorted(PACKAGE.glob("*.py"))

# L8, without what only __main__.py and bytes may use.
BUILTINS = set(
    "len range enumerate zip min max sum abs sorted reversed int str bool list tuple dict set isinstance ord repr "
    "any all divmod Exception ValueError TypeError KeyError IndexError LookupError ZeroDivisionError "
    "ArithmeticError OverflowError RuntimeError NotImplementedError AttributeError NotImplemented iter next".split()
)
# L25, the first list and the additional methods.
METHODS = set(
    "append clear copy count endswith extend find get index insert isalnum isalpha isdigit islower isspace isupper "
    "items join keys ljust lower lstrip partition pop remove replace reverse rfind rjust rpartition rsplit rstrip "
    "setdefault split splitlines startswith strip update upper values zfill bit_length title capitalize swapcase "
    "casefold center expandtabs removeprefix removesuffix rindex isascii isdecimal isnumeric istitle isidentifier "
    "isprintable translate add discard".split()
)
# L17, the words that do not occur anywhere.
WORDS = (
    "type typing typing_extensions enum Enum IntEnum StrEnum Flag IntFlag Generic Protocol ABC ABCMeta namedtuple "
    "NamedTuple TypedDict TYPE_CHECKING abstractmethod"
).split()
# L26, what no attribute is called, and L17, what nothing is called.
NOT_ATTRIBUTES = set(
    "items keys values pop update append clear extend insert remove reverse setdefault sort args encode decode hex "
    "fromhex format".split()
)
BARRED = set("register mro elements open input law version_info with_traceback add_note".split())
# L6 and L7, what the program does without.
FORBIDDEN = (
    ast.Global, ast.AsyncFunctionDef, ast.AsyncFor, ast.AsyncWith, ast.Await, ast.Div, ast.AnnAssign, ast.Import,
    ast.MatMult,
)


def named_by(tree):
    """All names that a file binds anywhere."""
    for node in ast.walk(tree):
        if isinstance(node, ast.Name) and not isinstance(node.ctx, ast.Load):
            yield node.id
        elif isinstance(node, ast.arg):
            yield node.arg
        elif isinstance(node, (ast.FunctionDef, ast.ClassDef)):
            yield node.name
        elif isinstance(node, ast.alias):
            yield node.asname or node.name
        elif isinstance(node, ast.ExceptHandler) and node.name:
            yield node.name


class Language(unittest.TestCase):
    def each(self):
        for path in FILES:
            source = path.read_text(encoding="utf-8")
            yield path.name, source, ast.parse(source)

    def test_the_folder_contains_plain_files_only(self):
        found = [path for path in PACKAGE.iterdir() if path.name != "__pycache__"]
        self.assertEqual(sorted(found), FILES)
        self.assertIn("__init__.py", [path.name for path in FILES])
        for path in FILES:
            self.assertRegex(path.name, r"\A[a-z_0-9]+\.py\Z")
            self.assertFalse(path.name.startswith("test"))

    def test_sizes_and_characters(self):
        for name, source, tree in self.each():
            lines = source.split("\n")
            self.assertLess(len(lines), 400, name)
            for line in lines:
                self.assertLessEqual(len(line), 120, (name, line))
            self.assertRegex(source, r"\A[ -~\n]*\Z", name)
            for node in ast.walk(tree):
                if isinstance(node, ast.FunctionDef):
                    self.assertLessEqual(node.end_lineno - node.lineno + 1, 40, (name, node.name))
                if isinstance(node, ast.Constant) and isinstance(node.value, str):
                    self.assertNotIn("%", node.value, name)

    def test_words_that_do_not_occur(self):
        for name, source, _ in self.each():
            for word in re.findall(r"\w+", source):
                self.assertNotIn(word, WORDS, name)
                self.assertIsNone(re.search("dataclass|overload|contextmanager", word), name)

    def test_imports_name_the_file_that_defines(self):
        for name, _, tree in self.each():
            for node in ast.walk(tree):
                if isinstance(node, ast.ImportFrom):
                    self.assertIn(node, tree.body, name)
                    self.assertEqual(node.level, 0, name)
                    self.assertRegex(node.module, r"\Acallsover\.\w+\Z", name)
                    home = ast.parse((PACKAGE / f"{node.module.split('.')[1]}.py").read_text(encoding="utf-8"))
                    for alias in node.names:
                        self.assertIn(alias.name, self.defined_in(home), name)
                        self.assertIsNone(alias.asname)

    def defined_in(self, tree):
        found = [node.name for node in tree.body if isinstance(node, (ast.FunctionDef, ast.ClassDef))]
        return found + [node.targets[0].id for node in tree.body if isinstance(node, ast.Assign)]

    def test_module_level(self):
        for name, _, tree in self.each():
            self.assertIsInstance(tree.body[0], ast.Expr, name)
            for node in tree.body[1:]:
                self.assertIsInstance(node, (ast.ImportFrom, ast.FunctionDef, ast.ClassDef, ast.Assign), name)
            bound = self.defined_in(tree)
            self.assertEqual(len(bound), len(set(bound)), name)

    def test_statements_and_signs(self):
        for name, _, tree in self.each():
            for node in ast.walk(tree):
                self.assertNotIsInstance(node, FORBIDDEN, (name, getattr(node, "lineno", 0)))
                if isinstance(node, ast.Constant):
                    self.assertNotIsInstance(node.value, (float, complex), name)
                if isinstance(node, ast.Compare) and isinstance(node.ops[0], (ast.Is, ast.IsNot)):
                    self.assertIn(node.comparators[0].value, (None, True, False), name)
                if isinstance(node, ast.FunctionDef):
                    self.assertEqual(node.decorator_list, [], name)
                    self.assertEqual(node.args.posonlyargs, [], name)

    def test_names(self):
        known = set(dir(builtins))
        for name, _, tree in self.each():
            bound = set(named_by(tree))
            for word in bound:
                self.assertRegex(word, r"\A([A-Za-z][A-Za-z0-9_]*|__[a-z]+__)\Z", name)
                self.assertNotIn(word, known, name)
            for node in ast.walk(tree):
                if isinstance(node, ast.Name) and isinstance(node.ctx, ast.Load) and node.id not in bound:
                    self.assertIn(node.id, BUILTINS, name)

    def test_no_local_name_is_that_of_an_import_or_a_class(self):
        for name, _, tree in self.each():
            taken = {node.name for node in tree.body if isinstance(node, ast.ClassDef)}
            taken |= {a.name for node in tree.body if isinstance(node, ast.ImportFrom) for a in node.names}
            for function in [node for node in ast.walk(tree) if isinstance(node, ast.FunctionDef)]:
                self.assertFalse(taken & (set(named_by(function)) - {function.name}), (name, function.name))

    def own_methods(self):
        classes = [node for _, _, tree in self.each() for node in tree.body if isinstance(node, ast.ClassDef)]
        return {node.name for made in classes for node in made.body if isinstance(node, ast.FunctionDef)}

    def test_methods_of_builtin_values(self):
        own = self.own_methods()
        for name, _, tree in self.each():
            for node in ast.walk(tree):
                if isinstance(node, ast.Call) and isinstance(node.func, ast.Attribute) and node.func.attr not in own:
                    self.assertIn(node.func.attr, METHODS, (name, node.lineno))
                    self.assertEqual(node.keywords, [], (name, node.lineno))

    def classes(self):
        return [node for _, _, tree in self.each() for node in tree.body if isinstance(node, ast.ClassDef)]

    def test_no_name_is_a_method_and_an_attribute(self):
        stored, read = set(), set()
        for _, _, tree in self.each():
            for node in ast.walk(tree):
                if isinstance(node, ast.Attribute):
                    (read if isinstance(node.ctx, ast.Load) else stored).add(node.attr)
        own = self.own_methods()
        self.assertFalse(stored & own)
        self.assertFalse(stored & NOT_ATTRIBUTES)
        self.assertFalse((stored | own) & BARRED)
        self.assertFalse(read - stored - own - METHODS)

    def test_attributes_are_assigned_through_self_or_a_local_name(self):
        for name, _, tree in self.each():
            for node in ast.walk(tree):
                if isinstance(node, ast.Attribute) and not isinstance(node.ctx, ast.Load):
                    self.assertIsInstance(node.value, ast.Name, (name, node.lineno))

    def test_double_underscore_methods(self):
        for made in self.classes():
            for node in made.body:
                if not isinstance(node, ast.FunctionDef) or not node.name.startswith("__"):
                    continue
                self.assertIn(node.name, ("__init__", "__eq__", "__repr__", "__str__", "__len__"))
                if node.name == "__init__":
                    continue
                for inner in ast.walk(node):
                    self.assertNotIsInstance(inner, (ast.Assign, ast.AugAssign, ast.Delete), node.name)
                self.assertIsInstance(node.body[-1], ast.Return)

    def test_what_stands_beside_an_own_equality(self):
        takes_lists = ("any", "all", "min", "max", "sum", "sorted")
        for name, _, tree in self.each():
            for node in ast.walk(tree):
                self.assertNotIsInstance(node, (ast.Match, ast.Yield, ast.YieldFrom), name)
                if isinstance(node, ast.Call) and isinstance(node.func, ast.Name) and node.func.id in takes_lists:
                    for argument in node.args:
                        self.assertNotIsInstance(argument, ast.GeneratorExp, (name, node.lineno))
                if isinstance(node, ast.Call) and isinstance(node.func, ast.Attribute):
                    self.assertNotEqual(node.func.attr, "sort", (name, node.lineno))

    def test_caught_errors_are_own_errors(self):
        own = {made.name for made in self.classes()}
        for name, _, tree in self.each():
            for node in ast.walk(tree):
                if isinstance(node, ast.ExceptHandler):
                    caught = node.type.elts if isinstance(node.type, ast.Tuple) else [node.type]
                    self.assertTrue({error.id for error in caught} <= own, (name, node.lineno))
                if isinstance(node, ast.Raise):
                    self.assertIsInstance(node.exc, ast.Call, (name, node.lineno))
                    self.assertIn(node.exc.func.id, own, (name, node.lineno))

    def test_what_is_iterated_at_once_is_not_stored(self):
        for name, _, tree in self.each():
            for node in ast.walk(tree):
                if isinstance(node, (ast.Assign, ast.Return)) and isinstance(node.value, ast.Call):
                    function = node.value.func
                    called = function.id if isinstance(function, ast.Name) else function.attr
                    self.assertNotIn(called, ("zip", "enumerate", "range", "reversed", "items", "keys", "values"),
                                     (name, node.lineno))

    def test_no_file_imports_itself_through_others(self):
        imports = {}
        for name, _, tree in self.each():
            found = [node.module.split(".")[1] + ".py" for node in tree.body if isinstance(node, ast.ImportFrom)]
            imports[name] = set(found)
        for _ in imports:
            imports = {name: found.union(*[imports[other] for other in found]) for name, found in imports.items()}
        for name, found in imports.items():
            self.assertNotIn(name, found)

    def test_module_level_tables_are_only_read(self):
        for name, _, tree in self.each():
            tables = {node.targets[0].id for node in tree.body if isinstance(node, ast.Assign)
                      and isinstance(node.value, (ast.Dict, ast.List))}
            for node in ast.walk(tree):
                if isinstance(node, ast.Call):
                    for argument in node.args:
                        self.assertFalse(isinstance(argument, ast.Name) and argument.id in tables, (name, node.lineno))
                if isinstance(node, ast.Subscript) and isinstance(node.value, ast.Name) and node.value.id in tables:
                    self.assertIsInstance(node.ctx, ast.Load, (name, node.lineno))
                if isinstance(node, ast.Call) and isinstance(node.func, ast.Subscript):
                    self.fail((name, node.lineno))


if __name__ == "__main__":
    unittest.main()
