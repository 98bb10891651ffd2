"""The rules of the language that can be seen in the code of the package, one test for each lot of rules."""

import ast
import builtins
import os
import re
import unittest

ROOT = os.path.join(os.path.dirname(os.path.dirname(os.path.abspath(__file__))), "stillopen")

BUILTINS = set(
    "len range enumerate zip min max sum abs sorted reversed int str bool bytes list tuple dict set frozenset isinstance ord "
    "repr any all divmod pow Exception ValueError TypeError KeyError IndexError LookupError ZeroDivisionError "
    "ArithmeticError OverflowError RuntimeError NotImplementedError AttributeError StopIteration NotImplemented".split()
)
METHODS = set(
    "append clear copy count endswith extend find get index insert isalnum isalpha isdigit islower isspace isupper items "
    "join keys ljust lower lstrip partition pop remove replace reverse rfind rjust rpartition rsplit rstrip setdefault split "
    "splitlines startswith strip update upper values zfill bit_length add discard".split()
)
NEVER = set("register mro elements open input law version_info with_traceback add_note".split())
NO_NAMES = set(
    "attrgetter breakpoint builtins compile copyright credits delattr dir eval exec exit gc getattr globals hasattr help id "
    "importlib license locals methodcaller os quit setattr super type vars sys iter next map filter".split()
)
NO_WORDS = set(
    "type typing typing_extensions enum Enum IntEnum StrEnum Flag IntFlag Generic Protocol ABC ABCMeta namedtuple NamedTuple "
    "TypedDict TYPE_CHECKING abstractmethod".split()
)
AT_ONCE = ("zip", "enumerate", "reversed", "range")
VIEWS = ("items", "keys", "values")
TAKERS = ("list", "tuple", "dict", "sorted", "sum", "any", "all", "enumerate", "zip", "min", "max", "len", "reversed")
LIBRARY = {"heapq": {"heappush", "heappop"}}
NODES = (
    ast.Global, ast.AsyncFunctionDef, ast.AsyncFor, ast.AsyncWith, ast.Await, ast.Yield, ast.YieldFrom, ast.Div, ast.MatMult,
    ast.Set, ast.SetComp, ast.NamedExpr, ast.JoinedStr, ast.Nonlocal, ast.With, ast.Match, ast.AnnAssign, ast.Starred,
    ast.Delete, ast.Import,
)


class File:
    """A file of the package: its text, its tree, and around each part the part that it stands in."""

    def __init__(self, name):
        self.name = name
        with open(os.path.join(ROOT, name), encoding="utf-8") as source:
            self.text = source.read()
        self.tree = ast.parse(self.text)
        self.around = {}
        for part in ast.walk(self.tree):
            for child in ast.iter_child_nodes(part):
                self.around[child] = part

    def docstrings(self):
        """The strings that are docstrings."""
        places = (ast.Module, ast.FunctionDef, ast.ClassDef)
        return [part.body[0].value for part in ast.walk(self.tree) if isinstance(part, places) and ast.get_docstring(part)]

    def functions(self):
        return [part for part in ast.walk(self.tree) if isinstance(part, ast.FunctionDef)]

    def bound(self):
        """The names that are bound at module level, in order, those of imports included."""
        names = []
        for part in self.tree.body:
            if isinstance(part, ast.ImportFrom):
                names += [alias.name for alias in part.names]
            elif isinstance(part, (ast.FunctionDef, ast.ClassDef)):
                names.append(part.name)
            elif isinstance(part, ast.Assign):
                names += [target.id for target in part.targets]
        return names


FILES = [File(name) for name in sorted(os.listdir(ROOT)) if name.endswith(".py")]
BY_NAME = {one.name: one for one in FILES}


def parts(kind):
    """(file, part) for all parts of this kind."""
    return [(one, part) for one in FILES for part in ast.walk(one.tree) if isinstance(part, kind)]


class Language(unittest.TestCase):
    def assertNone(self, found):
        self.assertEqual([f"{one.name}:{getattr(part, 'lineno', part)}" for one, part in found], [])

    def test_files(self):
        names = [name for name in os.listdir(ROOT) if name != "__pycache__"]
        self.assertEqual([name for name in names if not re.fullmatch(r"[a-z0-9_]+\.py", name)], [])
        self.assertIn("__init__.py", names)

    def test_sizes(self):
        for one in FILES:
            lines = one.text.split("\n")
            self.assertLess(len(lines), 401, one.name)
            self.assertEqual([line for line in lines if len(line) > 120], [])
            self.assertRegex(one.text, r"\A[ -~\n]*\Z")
            self.assertTrue(one.text.endswith("\n"))
            for function in one.functions():
                self.assertLessEqual(function.end_lineno - function.lineno + 1, 40, function.name)
                self.assertIsNotNone(ast.get_docstring(function) or function.name == "__init__" or None, function.name)

    def test_no_such_parts(self):
        self.assertNone(parts(NODES))
        self.assertNone([(one, part) for one, part in parts((ast.FunctionDef, ast.ClassDef)) if part.decorator_list])
        self.assertNone([(one, part) for one, part in parts(ast.Constant) if isinstance(part.value, (float, complex, bytes))])
        self.assertNone([(one, part) for one, part in parts(ast.FunctionDef) if part.args.vararg or part.args.kwarg])
        self.assertNone([(one, part) for one, part in parts(ast.Try) if part.finalbody])

    def test_imports(self):
        for one, part in parts(ast.ImportFrom):
            self.assertIn(part, one.tree.body)
            self.assertEqual(part.level, 0)
            if part.module in LIBRARY:
                self.assertLessEqual({alias.name for alias in part.names}, LIBRARY[part.module])
                continue
            package, module = part.module.split(".")
            self.assertEqual(package, "stillopen")
            there = BY_NAME[module + ".py"]
            own = [item.name for item in there.tree.body if isinstance(item, (ast.FunctionDef, ast.ClassDef))]
            own += [item.targets[0].id for item in there.tree.body if isinstance(item, ast.Assign)]
            for alias in part.names:
                self.assertIsNone(alias.asname)
                self.assertIn(alias.name, own, one.name)
                used = [item for item in ast.walk(one.tree) if isinstance(item, ast.Name) and item.id == alias.name]
                self.assertTrue(used, (one.name, alias.name))
        for one in FILES:
            kinds = [isinstance(part, ast.ImportFrom) for part in one.tree.body[1:]]
            self.assertEqual(kinds, sorted(kinds, reverse=True), one.name)

    def test_no_turn_of_imports(self):
        ahead = {one.name: {part.module.split(".")[1] + ".py" for part in one.tree.body
                            if isinstance(part, ast.ImportFrom) and part.module not in LIBRARY} for one in FILES}
        while ahead:
            free = [name for name, needed in ahead.items() if not needed & set(ahead)]
            self.assertTrue(free, ahead)
            for name in free:
                del ahead[name]

    def test_module_level(self):
        for one in FILES:
            self.assertEqual(len(one.bound()), len(set(one.bound())), one.name)
            for part in one.tree.body[1:]:
                self.assertIsInstance(part, (ast.ImportFrom, ast.FunctionDef, ast.ClassDef, ast.Assign))
                if isinstance(part, ast.Assign):
                    self.assertEqual(len(part.targets), 1)
                    ast.literal_eval(part.value)

    def test_names(self):
        taken = set(dir(builtins)) - {"_"}
        for one in FILES:
            special = {part.name for part in one.tree.body if isinstance(part, ast.ClassDef)}
            for part in one.tree.body:
                if isinstance(part, ast.ImportFrom):
                    special |= {alias.name for alias in part.names}
            named = [part.id for part in ast.walk(one.tree) if isinstance(part, ast.Name) and isinstance(part.ctx, ast.Store)]
            named += [part.arg for part in ast.walk(one.tree) if isinstance(part, ast.arg)]
            for name in named:
                self.assertNotIn(name, taken | special | NEVER | NO_NAMES, one.name)
            for part in one.tree.body:
                if isinstance(part, (ast.FunctionDef, ast.ClassDef)):
                    self.assertNotIn(part.name, taken | NEVER | NO_NAMES)
                    named.append(part.name)
            for name in named:
                self.assertRegex(name, r"\A(_|_?[A-Za-z][A-Za-z0-9_]*)\Z")
                self.assertNotRegex(name, r"\A(_wall|_pe_|_dcw_|_enum_|_cm_|_twin_re_|_lay_|_law_|_stub_|_sre)")
                self.assertNotRegex(name, r"\A(_cold|_tuplegetter|_outside|_record|_written_out|_member_names)[0-9_]*\Z")
        for one, part in parts(ast.Name):
            if isinstance(part.ctx, ast.Load):
                self.assertNotEqual(part.id, "_")
                if part.id in taken:
                    self.assertIn(part.id, BUILTINS, one.name)
        for one, part in parts((ast.Attribute, ast.keyword)):
            self.assertNotIn(getattr(part, "attr", getattr(part, "arg", None)), NEVER)

    def test_words(self):
        for one in FILES:
            docstrings = one.docstrings()
            for part in ast.walk(one.tree):
                if isinstance(part, ast.Constant) and isinstance(part.value, str) and part not in docstrings:
                    self.assertNotIn("%", part.value)
                    self.assertFalse(NO_WORDS & set(re.findall(r"\w+", part.value)), part.value)
                    self.assertFalse(part.value.endswith(("._", ".__")))
                    self.assertNotRegex(part.value, r"\A__|\b__")
            code = re.sub(r"#.*", "", one.text)
            self.assertEqual(re.findall(r"\\[^\\n\"'t]", code), [], one.name)
            self.assertNotRegex(code, r"dataclass|overload|contextmanager")

    def test_methods(self):
        own = {part.name for _, part in parts(ast.FunctionDef)}
        for one, part in parts(ast.Call):
            if isinstance(part.func, ast.Attribute):
                self.assertIn(part.func.attr, METHODS | own, one.name)
                if part.func.attr in METHODS:
                    self.assertEqual(part.keywords, [])
            elif isinstance(part.func, ast.Name) and part.func.id in BUILTINS:
                self.assertLessEqual({word.arg for word in part.keywords}, {"key", "reverse", "default", "start", "strict"})

    def test_attributes(self):
        methods = {part.name for _, part in parts(ast.FunctionDef) if part.args.args[:1] and part.args.args[0].arg == "self"}
        attributes = {part.attr for _, part in parts(ast.Attribute) if isinstance(part.ctx, ast.Store)}
        self.assertEqual(methods & attributes, set())
        self.assertEqual(attributes & (METHODS | {"args", "sort", "encode", "decode", "hex", "format"}), set())
        for one, part in parts(ast.Attribute):
            if isinstance(part.ctx, ast.Store):
                self.assertIsInstance(part.value, ast.Name, one.name)
            elif not isinstance(one.around[part], ast.Call) or one.around[part].func is not part:
                self.assertIn(part.attr, attributes, one.name)

    def test_is(self):
        for one, part in parts(ast.Compare):
            for sign, side in zip(part.ops, part.comparators):
                if isinstance(sign, (ast.Is, ast.IsNot)):
                    self.assertIsInstance(side, ast.Constant, one.name)
                    self.assertIn(side.value, (None, True, False))

    def test_errors(self):
        own = {part.name for part in BY_NAME["errors.py"].tree.body if isinstance(part, ast.ClassDef)}
        for one, part in parts(ast.Raise):
            self.assertIsInstance(part.exc, ast.Call, one.name)
            self.assertIn(part.exc.func.id, own)
        for one, part in parts(ast.ExceptHandler):
            self.assertIn(part.type.id, own, one.name)

    def test_iterated_at_once(self):
        for one, part in parts(ast.Call):
            at_once = isinstance(part.func, ast.Name) and part.func.id in AT_ONCE
            view = isinstance(part.func, ast.Attribute) and part.func.attr in VIEWS
            if at_once or view:
                around = one.around[part]
                looped = isinstance(around, (ast.For, ast.comprehension)) and around.iter is part
                taken = isinstance(around, ast.Call) and isinstance(around.func, ast.Name) and around.func.id in TAKERS
                self.assertTrue(looped or taken, f"{one.name}:{part.lineno}")

    def test_generators(self):
        for one, part in parts(ast.GeneratorExp):
            around = one.around[part]
            self.assertIsInstance(around, ast.Call, one.name)
            self.assertIn(around.func.id, ("list", "tuple", "dict", "sorted", "sum", "min", "max", "any", "all"))

    def test_sets(self):
        for one, part in parts(ast.Call):
            if isinstance(part.func, ast.Name) and part.func.id in ("set", "frozenset"):
                around = one.around[part]
                self.assertIn(getattr(getattr(around, "func", None), "id", None), ("sorted", "len"), one.name)

    def test_lambdas(self):
        lines = [(one.name, part.lineno) for one, part in parts(ast.Lambda)]
        self.assertEqual(len(lines), len(set(lines)))
        for one, part in parts(ast.Lambda):
            self.assertEqual(part.args.defaults, [], one.name)

    def test_loops_leave_alone_what_they_go_over(self):
        changing = ("append", "clear", "extend", "insert", "pop", "remove", "reverse", "setdefault", "update")
        for one, loop in parts(ast.For):
            gone_over = {ast.dump(part).replace("Store()", "Load()") for part in ast.walk(loop.iter)
                         if isinstance(part, (ast.Name, ast.Attribute))}
            for part in ast.walk(loop):
                if isinstance(part, ast.Call) and isinstance(part.func, ast.Attribute) and part.func.attr in changing:
                    self.assertNotIn(ast.dump(part.func.value), gone_over, f"{one.name}:{part.lineno}")
                if isinstance(part, ast.Subscript) and isinstance(part.ctx, ast.Store) and isinstance(loop.iter, ast.Name):
                    self.assertNotIn(ast.dump(part.value), gone_over, f"{one.name}:{part.lineno}")


if __name__ == "__main__":
    unittest.main()
