"""Looks at the package's files for what LANGUAGE.md rules out, as far as it can be seen in the written code."""

import ast
import builtins
import re

ALLOWED = set("""len range enumerate zip min max sum abs sorted reversed int str bool list tuple dict set frozenset
isinstance ord repr any all divmod Exception ValueError TypeError KeyError IndexError LookupError ZeroDivisionError
ArithmeticError OverflowError RuntimeError NotImplementedError AttributeError StopIteration""".split())
METHODS = set("""append clear copy count endswith extend find get index insert isalnum isalpha isdigit islower isspace
isupper items join keys ljust lower lstrip partition pop remove replace reverse rfind rjust rpartition rsplit rstrip
setdefault split splitlines startswith strip update upper values zfill bit_length""".split())
DUNDERS = {"__init__", "__eq__", "__repr__", "__str__", "__len__"}
WORDS = re.compile(r"\b(type|typing|typing_extensions|enum|Enum|IntEnum|StrEnum|Flag|IntFlag|Generic|Protocol|ABC"
                   r"|ABCMeta|namedtuple|NamedTuple|TypedDict|TYPE_CHECKING|abstractmethod)\b"
                   r"|dataclass|overload|contextmanager")
UNUSED = set("""register mro elements open input version_info with_traceback add_note attrgetter breakpoint builtins
compile copyright credits delattr dir eval exec exit gc getattr globals hasattr help id importlib license locals
methodcaller os quit setattr super type vars sys format format_map chr print""".split())
VALUE_NAMES_OUT = set("""items keys values pop update append clear extend insert remove reverse setdefault sort args
encode format""".split())
# Names that an object's value may have though values of Python's own have them.
VALUE_NAMES = set("count index title find get join lower upper split strip copy add".split())
PYTHONS_OWN = {name for kind in (str, int, list, tuple, dict, set, bytes) for name in dir(kind)}
STATEMENTS = (ast.Assign, ast.AugAssign, ast.If, ast.While, ast.For, ast.Return, ast.Break, ast.Continue, ast.Pass,
              ast.Raise, ast.Try, ast.Expr, ast.FunctionDef)
EXPRESSIONS_OUT = (ast.GeneratorExp, ast.SetComp, ast.DictComp, ast.NamedExpr, ast.Starred, ast.Yield, ast.YieldFrom,
                   ast.Await, ast.Div, ast.MatMult, ast.Set)
WALKED = {"zip", "enumerate", "reversed", "range"}
WALKED_METHODS = {"items", "keys", "values"}
WALKERS = {"list", "tuple", "dict", "sorted", "sum", "any", "all", "enumerate", "zip", "min", "max"}
KEYWORDS = {"sorted": {"key", "reverse"}, "min": {"key", "default"}, "max": {"key", "default"}, "sum": {"start"},
            "enumerate": {"start"}, "zip": {"strict"}}


class Look:
    """One file of the package; said holds (rule, line, words) of each thing that the rules rule out."""

    def __init__(self, package, name, text, error_names, own_methods=()):
        self.package = package
        self.name = name
        self.text = text
        self.error_names = error_names
        self.own_methods = own_methods
        self.said = []
        self.tree = ast.parse(text)
        self.parents = {}
        for node in ast.walk(self.tree):
            for child in ast.iter_child_nodes(node):
                self.parents[child] = node
        self.imports = [alias.name for node in self.tree.body if isinstance(node, ast.ImportFrom)
                        for alias in node.names]
        self.classes = [node.name for node in self.tree.body if isinstance(node, ast.ClassDef)]
        self.tops = [node.name for node in self.tree.body if isinstance(node, (ast.FunctionDef, ast.ClassDef))]
        self.tops += [node.targets[0].id for node in self.tree.body if isinstance(node, ast.Assign)]

    def say(self, rule, node, words):
        self.said.append((rule, self.name, getattr(node, "lineno", node), words))

    def look(self):
        self.look_at_text()
        self.look_at_top()
        for node in ast.walk(self.tree):
            self.look_at_node(node)
        return self.said

    def look_at_text(self):
        for number, line in enumerate(self.text.split("\n"), 1):
            if len(line) > 120 or "\t" in line:
                self.say("L10", number, "long line or tab")
            if not all(" " <= sign <= "~" for sign in line):
                self.say("L14", number, "sign")
            if WORDS.search(line):
                self.say("L17", number, WORDS.search(line).group())
        if self.text.count("\n") > 400:
            self.say("L10", 1, "long file")

    def look_at_top(self):
        for index, node in enumerate(self.tree.body):
            if isinstance(node, ast.ImportFrom):
                self.look_at_import(node)
            elif isinstance(node, ast.Assign):
                if not is_plain(node.value) or len(node.targets) != 1 or not isinstance(node.targets[0], ast.Name):
                    self.say("L3", node, "top value")
            elif isinstance(node, ast.Expr):
                if index != 0 or not isinstance(node.value, ast.Constant):
                    self.say("L3", node, "done at the top")
            elif not isinstance(node, (ast.FunctionDef, ast.ClassDef)):
                self.say("L3", node, "at the top")
        for name in self.tops + self.imports:
            if (self.tops + self.imports).count(name) > 1:
                self.say("L15", 1, name)

    def look_at_import(self, node):
        if node.level or not node.module.startswith(self.package + "."):
            self.say("L2", node, "import")
        for alias in node.names:
            if alias.name == "*" or alias.asname:
                self.say("L2", node, alias.name)

    def look_at_node(self, node):
        if isinstance(node, ast.stmt) and self.parents.get(node) is not self.tree:
            self.look_at_statement(node)
        if isinstance(node, EXPRESSIONS_OUT):
            self.say("L7", node, "expression")
        for kind, look in ((ast.FunctionDef, self.look_at_def), (ast.Lambda, self.look_at_arguments),
                           (ast.ClassDef, self.look_at_class), (ast.ListComp, self.look_at_comprehension),
                           (ast.FormattedValue, self.look_at_field), (ast.Constant, self.look_at_constant),
                           (ast.Name, self.look_at_name), (ast.Attribute, self.look_at_attribute),
                           (ast.Call, self.look_at_call), (ast.Compare, self.look_at_comparison),
                           (ast.BinOp, self.look_at_sum), (ast.Try, self.look_at_try), (ast.arg, self.look_at_arg)):
            if isinstance(node, kind):
                look(node)

    def look_at_statement(self, node):
        if not isinstance(node, STATEMENTS):
            self.say("L6", node, "statement")
        if isinstance(node, ast.Assign):
            if len(node.targets) != 1 or isinstance(node.targets[0], (ast.Tuple, ast.List)):
                self.say("L6", node, "targets")
        if isinstance(node, (ast.For, ast.While)) and node.orelse:
            self.say("L6", node, "else behind a loop")
        if isinstance(node, ast.Expr) and not isinstance(node.value, ast.Call):
            self.say("L6", node, "a value by itself")
        if isinstance(node, ast.Raise) and not isinstance(node.exc, ast.Call):
            self.say("L19", node, "raise")

    def look_at_def(self, node):
        if node.end_lineno - node.lineno + 1 > 40:
            self.say("L10", node, "long function")
        if node.decorator_list or node.returns:
            self.say("L4", node, "decorator or annotation")
        self.look_at_arguments(node)
        self.look_at_word(node, node.name)
        if isinstance(self.parents[node], ast.ClassDef) and node.name == "__init__":
            if any(isinstance(inner, ast.Return) for inner in ast.walk(node)):
                self.say("L28", node, "__init__ gives back")
        if node.name in DUNDERS - {"__init__"}:
            self.say("L28", node, "best not written")

    def look_at_arguments(self, node):
        args = node.args
        if args.vararg or args.kwarg or args.kwonlyargs or args.posonlyargs:
            self.say("L4", node, "parameters")
        if not all(is_plain(value) for value in args.defaults):
            self.say("L4", node, "default")

    def look_at_arg(self, node):
        if node.annotation:
            self.say("L21", node, "annotation")
        self.look_at_local(node, node.arg)

    def look_at_class(self, node):
        if len(node.bases) > 1 or node.keywords or node.decorator_list or self.parents[node] is not self.tree:
            self.say("L5", node, "class")
        for inner in node.body:
            if not isinstance(inner, (ast.FunctionDef, ast.Pass)):
                self.say("L5", inner, "class body")
        names = [inner.name for inner in node.body if isinstance(inner, ast.FunctionDef)]
        if len(set(names)) != len(names):
            self.say("L18", node, "method twice")

    def look_at_comprehension(self, node):
        if len(node.generators) != 1 or len(node.generators[0].ifs) > 1:
            self.say("L7", node, "comprehension")

    def look_at_field(self, node):
        if not isinstance(node.value, ast.Name) or node.format_spec or node.conversion not in (-1, ord("r")):
            self.say("L7", node, "f-string")

    def look_at_constant(self, node):
        if isinstance(node.value, (float, complex, bytes)) or node.value is ...:
            self.say("L7", node, "value")
        if isinstance(node.value, str) and "%" in node.value:
            self.say("L27", node, "percent sign")

    def look_at_word(self, node, name):
        if name.startswith("_") and name not in DUNDERS:
            self.say("L12", node, name)
        if name in UNUSED:
            self.say("L17", node, name)

    def look_at_local(self, node, name):
        self.look_at_word(node, name)
        if name in self.imports or name in self.tops or hasattr(builtins, name):
            self.say("L15", node, name)

    def look_at_name(self, node):
        self.look_at_word(node, node.id)
        if isinstance(node.ctx, ast.Store):
            if self.parents.get(self.parents[node]) is not self.tree:
                self.look_at_local(node, node.id)
        elif hasattr(builtins, node.id) and node.id not in ALLOWED:
            self.say("L8", node, node.id)
        elif node.id in ALLOWED or node.id in self.classes or node.id in self.error_names:
            self.look_at_value(node)

    def look_at_value(self, node):
        owner = self.parents[node]
        called = isinstance(owner, ast.Call) and owner.func is node
        asked = isinstance(owner, ast.Call) and isinstance(owner.func, ast.Name) and owner.func.id == "isinstance"
        key = isinstance(owner, ast.keyword) and owner.arg == "key"
        base = isinstance(owner, (ast.ClassDef, ast.ExceptHandler))
        if not (called or asked or key or base or isinstance(owner, ast.Tuple)):
            self.say("L18, L22", node, node.id)

    def look_at_attribute(self, node):
        self.look_at_word(node, node.attr)
        owner = self.parents[node]
        called = isinstance(owner, ast.Call) and owner.func is node
        if called and node.attr not in METHODS | DUNDERS | set(self.own_methods):
            self.say("L25", node, node.attr)
        if not called and node.attr in METHODS | set(self.own_methods) and isinstance(node.ctx, ast.Load):
            self.say("L25", node, node.attr)
        if not called and node.attr in VALUE_NAMES_OUT:
            self.say("L26", node, node.attr)
        if isinstance(node.ctx, ast.Store) and not (isinstance(node.value, ast.Name) and node.value.id == "self"):
            self.say("L18", node, node.attr)

    def look_at_call(self, node):
        name = node.func.id if isinstance(node.func, ast.Name) else None
        for keyword in node.keywords:
            if keyword.arg not in KEYWORDS.get(name, set()):
                self.say("L22", node, str(keyword.arg))
        method = node.func.attr if isinstance(node.func, ast.Attribute) else None
        if name in WALKED or method in WALKED_METHODS:
            if not self.is_walked(node):
                self.say("L23", node, "kept")
        if name in ("set", "frozenset") and not self.is_set_used(node):
            self.say("L24", node, "set")

    def is_walked(self, node):
        owner = self.parents[node]
        if isinstance(owner, (ast.For, ast.comprehension)):
            return owner.iter is node
        if not isinstance(owner, ast.Call):
            return False
        if isinstance(owner.func, ast.Name):
            return owner.func.id in WALKERS and (owner.args[0] is node or owner.func.id == "zip")
        return owner.func.attr == "join"

    def is_set_used(self, node):
        owner = self.parents[node]
        while isinstance(owner, ast.BinOp):
            owner = self.parents[owner]
        if isinstance(owner, ast.Compare):
            return all(isinstance(sign, (ast.In, ast.NotIn, ast.Eq, ast.NotEq)) for sign in owner.ops)
        return (isinstance(owner, ast.Call) and isinstance(owner.func, ast.Name)
                and owner.func.id in ("sorted", "len") and not owner.keywords)

    def look_at_comparison(self, node):
        things = [node.left] + node.comparators
        for sign, left, right in zip(node.ops, things, things[1:]):
            if isinstance(sign, (ast.Is, ast.IsNot)) and not any(
                    isinstance(thing, ast.Constant) and (thing.value is None or isinstance(thing.value, bool))
                    for thing in (left, right)):
                self.say("L20", node, "is")

    def look_at_sum(self, node):
        if isinstance(node.op, ast.Pow):
            if not isinstance(node.right, ast.Constant) or not 0 <= node.right.value <= 64:
                self.say("L27", node, "power")

    def look_at_try(self, node):
        if node.finalbody:
            self.say("L6", node, "finally")
        for handler in node.handlers:
            if not isinstance(handler.type, ast.Name) or handler.type.id not in self.error_names:
                self.say("L19", handler, "taken")


def methods_of(tree):
    return {inner.name for node in ast.walk(tree) if isinstance(node, ast.ClassDef)
            for inner in node.body if isinstance(inner, ast.FunctionDef)} - DUNDERS


def values_of(tree):
    return {node.attr for node in ast.walk(tree) if isinstance(node, ast.Attribute) and isinstance(node.ctx, ast.Store)}


def names_out(methods, values):
    """The own methods and values whose names L18 or L26 rule out."""
    return sorted((methods & values) | ((methods & PYTHONS_OWN) - METHODS - {"add", "discard"})
                  | ((values & PYTHONS_OWN) - VALUE_NAMES) | (values & VALUE_NAMES_OUT))


def is_plain(node):
    if isinstance(node, ast.Constant):
        return True
    if isinstance(node, ast.UnaryOp):
        return is_plain(node.operand)
    if isinstance(node, (ast.Tuple, ast.List)):
        return all(is_plain(inner) for inner in node.elts)
    return isinstance(node, ast.Dict) and all(is_plain(inner) for inner in node.keys + node.values)


def draws_in_a_circle(draws):
    """Whether files draw from one another; draws tells of each file from which it draws."""
    left = dict(draws)
    while left:
        free = [name for name in left if not set(left[name]) & set(left)]
        if not free:
            return True
        for name in free:
            del left[name]
    return False
