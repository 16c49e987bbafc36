"""The rules of LANGUAGE.md that can be seen in the code, held against each file of the package."""

import ast
import builtins
import pathlib
import unittest

PACKAGE = pathlib.Path(__file__).resolve().parent.parent / "turnlots"

BUILTINS = set(
    "len range enumerate zip min max sum abs sorted reversed int str bool bytes list tuple dict set "
    "isinstance ord repr any all divmod iter map Exception ValueError TypeError KeyError IndexError "
    "LookupError ZeroDivisionError ArithmeticError OverflowError RuntimeError NotImplementedError "
    "NotImplemented staticmethod classmethod property".split()
)
METHODS = set(
    "append clear copy count endswith extend find get index insert isalnum isalpha isdigit islower "
    "isspace isupper items join keys ljust lower lstrip partition pop remove replace reverse rfind "
    "rjust rpartition rsplit rstrip setdefault split splitlines startswith strip update upper values "
    "zfill bit_length title capitalize removeprefix removesuffix rindex isascii isdecimal isnumeric".split()
)
LIBRARY = {
    "heapq": {"heappush", "heappop", "heapify", "heapreplace", "heappushpop"},
    "math": {"gcd", "lcm", "isqrt", "comb", "perm", "factorial"},
}
NOT_ALLOWED = (
    ast.Global, ast.AsyncFunctionDef, ast.Await, ast.Import, ast.Set, ast.GeneratorExp, ast.Try,
    ast.TryStar, ast.Div, ast.Pow, ast.Mod, ast.MatMult, ast.AnnAssign, ast.NamedExpr, ast.Match,
)
ON_THE_SPOT = {"zip", "enumerate", "reversed", "map"}
VIEWS = {"items", "keys", "values"}
TAKERS = {"list", "tuple", "sorted", "sum", "any", "all", "enumerate", "min", "max", "dict", "zip"}
BARRED = set(
    "register mro elements open input law version_info with_traceback add_note attrgetter breakpoint "
    "builtins compile copyright credits delattr dir eval exec exit gc getattr globals hasattr help id "
    "importlib license locals methodcaller os quit setattr super type vars sys typing enum "
    "_cold _tuplegetter _outside _record _written_out _member_names".split()
)
WORDS = ("dataclass", "overload", "contextmanager", "_wall", "metaclass=", "Meta", "(type)")
DUNDERS = set(
    "__init__ __eq__ __repr__ __str__ __len__ __enter__ __exit__ __call__ __iter__ __contains__ "
    "__getitem__ __setitem__ __add__ __sub__ __mul__ __xor__ __and__ __or__ __neg__ __invert__ "
    "__slots__".split()
)
OPERATORS = {"__contains__", "__getitem__", "__add__", "__sub__", "__mul__", "__xor__", "__and__",
             "__or__", "__neg__", "__invert__", "__eq__", "__len__", "__str__", "__repr__"}


class File:
    """One file of the package: its text, its tree, and the parent of each node."""

    def __init__(self, path):
        self.name = path.stem
        self.text = path.read_text(encoding="utf-8")
        self.tree = ast.parse(self.text)
        self.parents = {
            child: node for node in ast.walk(self.tree) for child in ast.iter_child_nodes(node)
        }

    def nodes(self, *kinds):
        return [node for node in ast.walk(self.tree) if isinstance(node, kinds)]

    def functions(self):
        return self.nodes(ast.FunctionDef)

    def imports(self):
        return [(node.module, name) for node in self.nodes(ast.ImportFrom) for name in node.names]

    def defined(self):
        names = [node.name for node in self.tree.body if isinstance(node, (ast.FunctionDef, ast.ClassDef))]
        return names + [node.targets[0].id for node in self.tree.body if isinstance(node, ast.Assign)]

    def stored(self):
        """All names that the file gives a meaning, with where it does."""
        for node in ast.walk(self.tree):
            if isinstance(node, ast.Name) and isinstance(node.ctx, ast.Store):
                yield node.id, node
            elif isinstance(node, ast.arg):
                yield node.arg, node
            elif isinstance(node, (ast.FunctionDef, ast.ClassDef)):
                yield node.name, node

    def called(self, node):
        """The bare name that a call calls, None if it calls something else."""
        return node.func.id if isinstance(node, ast.Call) and isinstance(node.func, ast.Name) else None


FILES = [File(path) for path in sorted(PACKAGE.glob("*.py"))]


class LanguageTest(unittest.TestCase):
    file = None

    def each(self):
        for file in FILES:
            self.file = file.name
            yield file

    def _formatMessage(self, msg, standardMsg):
        return f"{self.file}: {super()._formatMessage(msg, standardMsg)}"

    def test_l1_l10_l14_files_and_characters(self):
        self.assertEqual([path.name for path in PACKAGE.iterdir() if path.suffix != ".py"
                          and path.name != "__pycache__"], [])
        for file in self.each():
            self.assertTrue(file.name.islower())
            self.assertNotIn(file.name, dir(builtins))
            self.assertTrue(all(sign == "\n" or " " <= sign <= "~" for sign in file.text))
            lines = file.text.split("\n")
            self.assertLessEqual(len(lines), 399)
            self.assertLessEqual(max(len(line) for line in lines), 120)
            for node in file.functions():
                self.assertLessEqual(node.end_lineno - node.lineno + 1, 40, node.name)
            for word in WORDS:
                self.assertNotIn(word, file.text)

    def test_l2_l16_imports_name_the_file_that_defines(self):
        defined = {f"turnlots.{file.name}": file.defined() for file in FILES}
        for file in self.each():
            for module, name in file.imports():
                self.assertIsNone(name.asname)
                allowed = LIBRARY.get(module) or defined[module]
                self.assertIn(name.name, allowed)
            names = [name.name for _, name in file.imports()] + file.defined()
            self.assertEqual(len(names), len(set(names)))

    def test_l16_no_two_files_import_from_each_other(self):
        wanted = {f"turnlots.{file.name}": {module for module, _ in file.imports()} for file in FILES}
        while wanted:
            free = [name for name in wanted if not wanted[name] & set(wanted)]
            self.assertTrue(free, wanted)
            for name in free:
                del wanted[name]

    def test_l3_module_level(self):
        kinds = (ast.ImportFrom, ast.FunctionDef, ast.ClassDef, ast.Assign, ast.Expr)
        for file in self.each():
            for node in file.tree.body:
                self.assertIsInstance(node, kinds)
                if isinstance(node, ast.Expr):
                    self.assertIs(node, file.tree.body[0])
                if isinstance(node, ast.Assign):
                    self.assertFalse([x for x in ast.walk(node) if isinstance(x, (ast.Call, ast.ListComp))])

    def test_l6_l7_statements_and_expressions(self):
        for file in self.each():
            for node in file.nodes(*NOT_ALLOWED):
                self.fail(f"{type(node).__name__} in line {node.lineno}" if hasattr(node, "lineno") else node)
            for node in file.nodes(ast.Constant):
                self.assertNotIsInstance(node.value, (float, complex, bytes))
                if isinstance(node.value, str):
                    self.assertNotIn("%", node.value)

    def test_l8_builtins(self):
        for file in self.each():
            own = {name for name, _ in file.stored()} | {name.name for _, name in file.imports()}
            for node in file.nodes(ast.Name):
                if isinstance(node.ctx, ast.Load) and node.id not in own:
                    self.assertIn(node.id, BUILTINS, node.lineno)

    def test_l12_l15_l17_names(self):
        for file in self.each():
            taken = {name.name for _, name in file.imports()}
            taken |= {node.name for node in file.nodes(ast.ClassDef)}
            for name, node in file.stored():
                self.assertFalse(name in BARRED, name)
                if name.startswith("__"):
                    self.assertIn(name, DUNDERS)
                elif not isinstance(file.parents[node], ast.ClassDef):
                    self.assertNotIn(name, dir(builtins))
                if not isinstance(node, ast.ClassDef):
                    self.assertNotIn(name, taken)

    def test_l4_l5_decorators_and_defaults(self):
        for file in self.each():
            for node in file.functions():
                for decorator in node.decorator_list:
                    self.assertIn(decorator.id, ("staticmethod", "classmethod", "property"))
                for value in node.args.defaults + [x for x in node.args.kw_defaults if x is not None]:
                    ast.literal_eval(value)
                self.assertIsNone(node.returns)
            for node in file.nodes(ast.ClassDef):
                self.assertEqual(node.decorator_list, [])
                self.assertLessEqual(len(node.bases), 1)

    def test_l5_operators_change_only_what_they_made(self):
        for file in self.each():
            for node in file.functions():
                if node.name in OPERATORS:
                    for inner in ast.walk(node):
                        self.assertNotIsInstance(inner, (ast.AugAssign, ast.Delete))
                        if isinstance(inner, (ast.Attribute, ast.Subscript)):
                            self.assertIsInstance(inner.ctx, ast.Load)

    def test_l6_with_and_what_stands_in_exit(self):
        for file in self.each():
            for node in file.nodes(ast.With):
                for item in node.items:
                    self.assertIsInstance(item.context_expr, (ast.Call, ast.Name, ast.Attribute))
            for node in file.functions():
                if node.name == "__exit__":
                    for row in node.body:
                        self.assertIn(ast.unparse(row).split("(")[0], ("self._held.clear", "self._held.append"))

    def test_l7_stars_in_calls(self):
        for file in self.each():
            for node in file.nodes(ast.Call):
                stars = [arg for arg in node.args if isinstance(arg, ast.Starred)]
                self.assertLessEqual(len(stars), 1)
                self.assertFalse([key for key in node.keywords if key.arg is None])
                for star in stars:
                    self.assertIsInstance(star.value, ast.Name)

    def test_l5_l26_class_values_and_names_of_attributes(self):
        taken = set(dir(str) + dir(int) + dir(list) + dir(dict) + dir(set) + dir(bytes)) - {"count", "index", "title"}
        for file in self.each():
            for node in file.nodes(ast.ClassDef):
                for row in node.body:
                    if isinstance(row, ast.Assign):
                        ast.literal_eval(row.value)
                    elif isinstance(row, ast.FunctionDef) and row.name not in DUNDERS:
                        self.assertNotIn(row.name, taken)
            for node in file.nodes(ast.Attribute):
                if isinstance(node.ctx, ast.Store):
                    self.assertNotIn(node.attr, taken)
                    self.assertIsInstance(node.value, ast.Name)

    def test_l18_attributes_are_assigned_somewhere_and_are_no_methods(self):
        assigned = {node.attr for file in FILES for node in file.nodes(ast.Attribute)
                    if isinstance(node.ctx, ast.Store)}
        methods = {node.name for file in FILES for node in file.functions()
                   if isinstance(file.parents[node], ast.ClassDef)}
        self.assertEqual(assigned & methods, set())
        properties = {node.name for file in FILES for node in file.functions()
                      if "property" in [decorator.id for decorator in node.decorator_list]}
        values = {node.targets[0].id for file in FILES for node in file.nodes(ast.Assign)
                  if isinstance(file.parents[node], ast.ClassDef)}
        for file in self.each():
            for node in file.nodes(ast.Attribute):
                if isinstance(file.parents[node], ast.Call) and file.parents[node].func is node:
                    self.assertIn(node.attr, METHODS | methods - properties)
                else:
                    self.assertIn(node.attr, assigned | properties | values)

    def test_l20_is(self):
        for file in self.each():
            for node in file.nodes(ast.Compare):
                for sign, right in zip(node.ops, node.comparators):
                    if isinstance(sign, (ast.Is, ast.IsNot)):
                        self.assertIsInstance(right, ast.Constant)

    def test_l23_iterated_at_once(self):
        for file in self.each():
            generators = {node.name for node in file.functions()
                          if any(isinstance(inner, (ast.Yield, ast.YieldFrom)) for inner in ast.walk(node))}
            for node in file.nodes(ast.Call):
                is_view = isinstance(node.func, ast.Attribute) and node.func.attr in VIEWS
                if is_view or file.called(node) in ON_THE_SPOT | generators:
                    self.check_taken(file, node)

    def check_taken(self, file, node):
        above = file.parents[node]
        taken = isinstance(above, (ast.For, ast.comprehension)) and above.iter is node
        self.assertTrue(taken or file.called(above) in TAKERS, node.lineno)

    def test_l23_ranges(self):
        for file in self.each():
            for node in file.nodes(ast.Call):
                above = file.parents[node]
                if file.called(node) == "range" and not isinstance(above, (ast.Assign, ast.Compare)):
                    if file.called(above) not in ("reversed", "len"):
                        self.check_taken(file, node)

    def test_l23_no_other_function_has_the_name_of_a_generator(self):
        names = [node.name for file in FILES for node in file.functions()]
        for file in self.each():
            for node in file.functions():
                if any(isinstance(inner, (ast.Yield, ast.YieldFrom)) for inner in ast.walk(node)):
                    self.assertEqual(names.count(node.name), 1)

    def test_l5_reversed_beside_getitem(self):
        for file in self.each():
            for node in file.nodes(ast.Call):
                if file.called(node) == "reversed":
                    self.assertIn(file.called(node.args[0]), ("list", "tuple", "sorted", "range"))

    def test_l24_sets(self):
        for file in self.each():
            for node in file.nodes(ast.Call, ast.SetComp):
                if isinstance(node, ast.SetComp) or file.called(node) == "set":
                    self.check_set(file, node)

    def check_set(self, file, node):
        above = file.parents[node]
        while isinstance(above, ast.BinOp):
            above = file.parents[above]
        compared = isinstance(above, ast.Compare)
        self.assertTrue(compared or file.called(above) in ("sorted", "len"), node.lineno)


if __name__ == "__main__":
    unittest.main()
