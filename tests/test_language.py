"""The form of the package's files: the rules of LANGUAGE.md that can be looked up in one file at a time."""

import ast
import builtins
import io
import pathlib
import re
import tokenize
import unittest

PACKAGE = pathlib.Path(__file__).parent.parent / "forgetwhen"
FILES = sorted(PACKAGE.glob("*.py"))

NODES = (
    ast.Module, ast.Expr, ast.Constant, ast.ImportFrom, ast.alias, ast.FunctionDef, ast.ClassDef, ast.arguments,
    ast.arg, ast.Return, ast.Assign, ast.AugAssign, ast.For, ast.While, ast.If, ast.Raise, ast.Pass, ast.Break,
    ast.Continue, ast.Delete, ast.BoolOp, ast.BinOp, ast.UnaryOp, ast.Lambda, ast.IfExp, ast.Dict, ast.ListComp,
    ast.DictComp, ast.SetComp, ast.GeneratorExp, ast.comprehension, ast.Compare, ast.Call, ast.keyword, ast.Attribute,
    ast.Subscript, ast.Starred, ast.Name, ast.List, ast.Tuple, ast.Slice, ast.JoinedStr, ast.FormattedValue,
    ast.Try, ast.ExceptHandler, ast.expr_context, ast.boolop, ast.operator, ast.unaryop, ast.cmpop,
)
LIBRARY = {"heapq": {"heappush", "heappop", "heapify"}, "math": {"gcd", "lcm"}}
# Whoever runs an example binds `_` there, too.
PYTHONS_OWN = set(dir(builtins)) - {"_"}
BARRED_NODES = (ast.Div, ast.MatMult, ast.Pow)
BUILTINS = set(
    "len range enumerate zip min max sum abs sorted reversed int str bool list tuple dict set isinstance ord repr any "
    "all divmod Exception".split()
)
METHODS = set(
    "append clear copy count endswith extend find get index insert isalnum isalpha isdigit islower isspace isupper "
    "items join keys ljust lower lstrip partition pop remove replace reverse rfind rjust rpartition rsplit rstrip "
    "setdefault split splitlines startswith strip update upper values zfill".split()
)
AT_ONCE = {"list", "tuple", "dict", "sorted", "sum", "any", "all", "min", "max", "enumerate", "zip"}
LAZY = {"range", "zip", "enumerate", "reversed"}
VIEWS = {"items", "keys", "values"}
NEVER = set(
    "register mro elements open input law version_info with_traceback add_note attrgetter breakpoint builtins compile "
    "copyright credits delattr dir eval exec exit gc globals help id importlib license locals methodcaller os quit "
    "vars sys type".split()
)
WORDS = (
    r"\b(type|typing|typing_extensions|enum|Enum|IntEnum|StrEnum|Flag|IntFlag|Generic|Protocol|ABC|ABCMeta|namedtuple|"
    r"NamedTuple|TypedDict|TYPE_CHECKING|abstractmethod)\b|dataclass|overload|contextmanager|_wall|_WallAttr"
)
FIRST_LETTERS = re.compile(r"_(wall|pe_|dcw_|enum_|cm_|twin_re_|lay_|law_|stub_|sre|cold|tuplegetter|outside|record)")


def parsed(path):
    return ast.parse(path.read_text())


def bound_names(tree):
    """Every name that is bound anywhere in a tree."""
    for node in ast.walk(tree):
        if isinstance(node, (ast.FunctionDef, ast.ClassDef)):
            yield node.name
        elif isinstance(node, ast.arg):
            yield node.arg
        elif isinstance(node, ast.Name) and isinstance(node.ctx, ast.Store):
            yield node.id


def local_names(tree):
    for node in ast.walk(tree):
        if isinstance(node, (ast.FunctionDef, ast.Lambda)):
            yield from (name for part in ast.iter_child_nodes(node) for name in bound_names(part))


def with_parents(tree):
    for node in ast.walk(tree):
        for child in ast.iter_child_nodes(node):
            child.parent = node
    return tree


def is_call_of(node, names):
    return isinstance(node, ast.Call) and isinstance(node.func, ast.Name) and node.func.id in names


def is_at_once(node):
    """Whether a node is gone through where it stands."""
    parent = node.parent
    if isinstance(parent, (ast.For, ast.comprehension)):
        return parent.iter is node
    if is_call_of(parent, AT_ONCE):
        return True
    if isinstance(parent, ast.Call) and isinstance(parent.func, ast.Attribute) and parent.func.attr == "join":
        return isinstance(parent.func.value, ast.Constant)
    return False


class LanguageTest(unittest.TestCase):
    def in_each(self, look):
        """Looks at each file; `look` tells nodes (or lines) that break the rule."""
        for path in FILES:
            wrong = [getattr(node, "lineno", node) for node in look(path)]
            self.assertEqual(wrong, [], path.name)

    def test_files(self):
        self.assertGreater(len(FILES), 1)
        self.assertEqual([path for path in PACKAGE.iterdir() if path.name != "__pycache__" and path not in FILES], [])
        for path in FILES:
            text = path.read_text()
            self.assertRegex(path.name, r"^[a-z_]+\.py$")
            self.assertTrue(all(sign == "\n" or " " <= sign <= "~" for sign in text), path.name)
            lines = text.split("\n")
            self.assertLessEqual(len(lines), 399, path.name)
            self.assertLessEqual(max(len(line) for line in lines), 120, path.name)

    def test_functions_are_short(self):
        self.in_each(lambda path: [
            node for node in ast.walk(parsed(path))
            if isinstance(node, ast.FunctionDef) and node.end_lineno - node.lineno >= 40
        ])

    def test_nodes(self):
        self.in_each(lambda path: [
            node for node in ast.walk(parsed(path)) if not isinstance(node, NODES) or isinstance(node, BARRED_NODES)
        ])

    def test_module_level(self):
        def look(path):
            for node in parsed(path).body:
                if isinstance(node, ast.Expr):
                    if not isinstance(node.value, ast.Constant):
                        yield node
                elif isinstance(node, ast.Assign):
                    parts = list(ast.walk(node.value))
                    if len(node.targets) > 1 or any(isinstance(part, (ast.Call, ast.Lambda)) for part in parts):
                        yield node
                elif not isinstance(node, (ast.ImportFrom, ast.FunctionDef, ast.ClassDef)):
                    yield node

        self.in_each(look)

    def test_plain_definitions(self):
        def look(path):
            for node in ast.walk(parsed(path)):
                if isinstance(node, (ast.FunctionDef, ast.ClassDef)) and node.decorator_list:
                    yield node
                if isinstance(node, ast.arg) and node.annotation or isinstance(node, ast.FunctionDef) and node.returns:
                    yield node

        self.in_each(look)

    def test_imports(self):
        needs = {}
        for path in FILES:
            needs[path.stem] = []
            for node in ast.walk(parsed(path)):
                if isinstance(node, ast.ImportFrom) and node.module in LIBRARY:
                    self.assertEqual([name for name in node.names if name.asname], [], path.name)
                    self.assertLessEqual({name.name for name in node.names}, LIBRARY[node.module], path.name)
                elif isinstance(node, ast.ImportFrom):
                    package, _, module = node.module.partition(".")
                    self.assertEqual((package, node.level), ("forgetwhen", 0), path.name)
                    needs[path.stem].append(module)
                    found = parsed(PACKAGE / f"{module}.py").body
                    own = [part.name for part in found if isinstance(part, (ast.FunctionDef, ast.ClassDef))]
                    own += [part.targets[0].id for part in found if isinstance(part, ast.Assign)]
                    for name in node.names:
                        self.assertIsNone(name.asname)
                        self.assertIn(name.name, own, path.name)
        done = set()
        while len(done) < len(needs):
            ready = [name for name in needs if name not in done and set(needs[name]) <= done]
            self.assertTrue(ready, "files import from each other")
            done.update(ready)

    def test_imported_names_are_used(self):
        def look(path):
            tree = parsed(path)
            used = {node.id for node in ast.walk(tree) if isinstance(node, ast.Name)}
            for node in ast.walk(tree):
                if isinstance(node, ast.ImportFrom):
                    yield from (name for name in node.names if name.name not in used)

        self.in_each(look)

    def test_names(self):
        for path in FILES:
            tree = parsed(path)
            names = list(bound_names(tree))
            self.assertEqual([name for name in names if name in PYTHONS_OWN or name in NEVER], [], path.name)
            self.assertEqual([name for name in names if FIRST_LETTERS.match(name)], [], path.name)
            self.assertEqual([n for n in names if n.startswith("__") and n not in ("__init__",)], [], path.name)
            own = [node.name for node in tree.body if isinstance(node, (ast.FunctionDef, ast.ClassDef))]
            own += [node.targets[0].id for node in tree.body if isinstance(node, ast.Assign)]
            own += [name.name for node in tree.body if isinstance(node, ast.ImportFrom) for name in node.names]
            self.assertEqual(len(own), len(set(own)), path.name)
            self.assertEqual(sorted(set(own) & set(local_names(tree))), [], path.name)

    def test_underscore_is_not_read(self):
        self.in_each(lambda path: [
            node for node in ast.walk(parsed(path))
            if isinstance(node, ast.Name) and node.id == "_" and isinstance(node.ctx, ast.Load)
        ])

    def test_builtins(self):
        def look(path):
            for node in ast.walk(with_parents(parsed(path))):
                if isinstance(node, ast.Name) and node.id in PYTHONS_OWN and node.id not in ("Exception",):
                    as_class = is_call_of(node.parent, {"isinstance"}) or isinstance(node.parent, ast.Tuple)
                    called = isinstance(node.parent, ast.Call) and node.parent.func is node
                    if node.id not in BUILTINS or not (called or as_class):
                        yield node

        self.in_each(look)

    def test_methods(self):
        own = {
            node.name for path in FILES for part in parsed(path).body if isinstance(part, ast.ClassDef)
            for node in part.body if isinstance(node, ast.FunctionDef)
        }

        def look(path):
            for node in ast.walk(parsed(path)):
                if isinstance(node, ast.Call) and isinstance(node.func, ast.Attribute):
                    if node.func.attr not in METHODS | own:
                        yield node

        self.in_each(look)
        self.assertEqual(own & METHODS, set())

    def test_iterated_at_once(self):
        def look(path):
            for node in ast.walk(with_parents(parsed(path))):
                lazy = is_call_of(node, LAZY) or isinstance(node, ast.GeneratorExp)
                if isinstance(node, ast.Call) and isinstance(node.func, ast.Attribute) and node.func.attr in VIEWS:
                    lazy = True
                inside = is_call_of(node, {"range"}) and is_call_of(node.parent, {"reversed", "len"})
                inside = inside or is_call_of(node, {"range"}) and isinstance(node.parent, ast.Compare)
                if lazy and not is_at_once(node) and not inside:
                    yield node

        self.in_each(look)

    def test_sets(self):
        def look(path):
            for node in ast.walk(with_parents(parsed(path))):
                if isinstance(node, ast.SetComp) or is_call_of(node, {"set"}):
                    if not is_call_of(node.parent, {"sorted", "len"}):
                        yield node

        self.in_each(look)

    def test_is(self):
        def look(path):
            for node in ast.walk(parsed(path)):
                if isinstance(node, ast.Compare) and isinstance(node.ops[0], (ast.Is, ast.IsNot)):
                    if not (isinstance(node.comparators[0], ast.Constant) and node.comparators[0].value is None):
                        yield node

        self.in_each(look)

    def test_lambdas(self):
        def look(path):
            lines = [node.lineno for node in ast.walk(parsed(path)) if isinstance(node, ast.Lambda)]
            return [line for line in lines if lines.count(line) > 1]

        self.in_each(look)

    def test_stars_in_calls(self):
        def look(path):
            for node in ast.walk(parsed(path)):
                if isinstance(node, ast.Call):
                    for part in node.args:
                        value = getattr(part, "value", None)
                        plain = isinstance(value, (ast.Name, ast.List, ast.Tuple))
                        off_name = isinstance(value, ast.Attribute) and isinstance(value.value, ast.Name)
                        if isinstance(part, ast.Starred) and not (plain or off_name):
                            yield node

        self.in_each(look)

    def test_beside_generator_expressions(self):
        def look(path):
            for node in ast.walk(parsed(path)):
                if isinstance(node, ast.Call) and any(isinstance(part, ast.GeneratorExp) for part in node.args):
                    others = [part for part in node.args if not isinstance(part, ast.GeneratorExp)]
                    others += [keyword.value for keyword in node.keywords]
                    if not all(isinstance(part, (ast.Name, ast.Constant)) for part in others):
                        yield node

        self.in_each(look)

    def test_methods_and_attributes_have_unlike_names(self):
        methods, attributes = set(), set()
        for path in FILES:
            for node in ast.walk(parsed(path)):
                if isinstance(node, ast.ClassDef):
                    methods |= {part.name for part in node.body if isinstance(part, ast.FunctionDef)}
                if isinstance(node, ast.Attribute) and isinstance(node.ctx, ast.Store):
                    attributes.add(node.attr)
        self.assertEqual(methods & attributes, set())

    def test_inner_names_are_new(self):
        """The variables of a comprehension inside of another one, or of a lambda, are not those further out."""
        scopes = (ast.ListComp, ast.SetComp, ast.DictComp, ast.GeneratorExp, ast.Lambda)

        def own_names(node):
            if isinstance(node, ast.Lambda):
                return {part.arg for part in node.args.args}
            return {name for part in node.generators for name in bound_names(part.target)}

        def look(path):
            for node in ast.walk(with_parents(parsed(path))):
                further = getattr(node, "parent", None)
                while isinstance(node, scopes) and further is not None:
                    if isinstance(further, scopes) and own_names(node) & own_names(further):
                        yield node
                    further = getattr(further, "parent", None)

        self.in_each(look)

    def test_raises(self):
        def look(path):
            for node in ast.walk(parsed(path)):
                if isinstance(node, ast.Raise) and not isinstance(node.exc, ast.Call):
                    yield node

        self.in_each(look)

    def test_only_own_errors_are_caught(self):
        errors = {node.name for node in parsed(PACKAGE / "errors.py").body if isinstance(node, ast.ClassDef)}

        def look(path):
            for node in ast.walk(parsed(path)):
                if isinstance(node, ast.Try) and (node.finalbody or node.orelse):
                    yield node
                if isinstance(node, ast.ExceptHandler) and getattr(node.type, "id", None) not in errors:
                    yield node

        self.in_each(look)

    def test_strings(self):
        for path in FILES:
            for token in tokenize.generate_tokens(io.StringIO(path.read_text()).readline):
                if token.type == tokenize.STRING and not token.string.startswith('"""'):
                    self.assertNotIn("%", token.string, path.name)
                    self.assertNotRegex(token.string, r"\\[^n\\\"']", path.name)
                    self.assertNotRegex(token.string, WORDS, path.name)
                elif token.type == tokenize.NAME:
                    self.assertNotRegex(token.string, f"^({WORDS})$", path.name)

    def test_loops_do_not_change_what_they_go_over(self):
        changing = {"append", "extend", "insert", "pop", "remove", "clear", "update", "setdefault", "reverse"}

        def look(path):
            for node in ast.walk(parsed(path)):
                if isinstance(node, ast.For):
                    over = {ast.unparse(part) for part in ast.walk(node.iter) if isinstance(part, (ast.Name, ast.Attribute))}
                    for part in ast.walk(ast.Module(body=node.body, type_ignores=[])):
                        if isinstance(part, ast.Call) and isinstance(part.func, ast.Attribute):
                            if part.func.attr in changing and ast.unparse(part.func.value) in over:
                                yield part

        self.in_each(look)
