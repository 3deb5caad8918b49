"""Looks for code of the package that leaves the language of LANGUAGE.md; each finding begins with the rule's number."""

import ast
import builtins
import io
import keyword
import re
import tokenize

ALLOWED_BUILTINS = set("""len range enumerate zip min max sum abs sorted reversed int str bool list tuple dict set
frozenset isinstance ord repr any all divmod pow getattr hasattr setattr iter next map type Exception ValueError TypeError
KeyError IndexError LookupError ZeroDivisionError ArithmeticError OverflowError RuntimeError NotImplementedError
AttributeError StopIteration NotImplemented super property staticmethod classmethod object""".split())
MAY_BE_LOCAL = {"object", "id", "format", "credits", "license", "copyright", "quit", "callable", "complex", "ascii", "oct",
                "memoryview", "aiter", "anext"}
METHODS = set("""append clear copy count endswith extend find get index insert isalnum isalpha isdigit islower isspace
isupper items join keys ljust lower lstrip partition pop remove replace reverse rfind rjust rpartition rsplit rstrip
setdefault split splitlines startswith strip update upper values zfill bit_length title capitalize swapcase casefold center
expandtabs removeprefix removesuffix rindex isascii isdecimal isnumeric istitle isidentifier isprintable translate add
discard appendleft popleft extendleft rotate format from_iterable""".split())
DUNDERS = set("""__init__ __eq__ __repr__ __str__ __len__ __enter__ __exit__ __call__ __iter__ __lt__ __le__ __gt__ __ge__
__ne__ __add__ __sub__ __mul__ __floordiv__ __mod__ __pow__ __and__ __or__ __xor__ __lshift__ __rshift__ __radd__ __iadd__
__neg__ __pos__ __invert__ __abs__ __bool__ __contains__ __getitem__ __setitem__""".split())
NO_ATTRIBUTES = set("""items keys values pop update append clear extend insert remove reverse setdefault sort args encode
decode hex fromhex format format_map mro elements open input law version_info with_traceback add_note register""".split())
NO_NAMES = set("""mro elements open input law version_info with_traceback add_note register attrgetter breakpoint builtins
compile copyright credits delattr dir eval exec exit gc globals help id importlib license locals methodcaller os quit vars
sys""".split())
NO_WORDS = """typing typing_extensions enum Enum IntEnum StrEnum Flag IntFlag Generic Protocol ABC ABCMeta namedtuple
NamedTuple TypedDict TYPE_CHECKING abstractmethod""".split()
NO_PARTS = ("dataclass", "overload", "contextmanager", "_wall", "_WallAttr")
LIBRARY = {"heapq": {"heappush", "heappop", "heapify", "heapreplace", "heappushpop"},
           "math": {"gcd", "lcm", "isqrt", "comb", "perm", "factorial"},
           "itertools": {"product", "combinations", "permutations", "chain", "accumulate", "pairwise", "islice", "zip_longest"},
           "collections": {"defaultdict", "deque"}, "__future__": {"annotations"}}
AT_ONCE = {"range", "zip", "enumerate", "reversed", "map"}
TAKERS = {"list", "tuple", "dict", "sorted", "sum", "any", "all", "enumerate", "zip", "bytes", "min", "max"}
WANT_LISTS = {"any", "all", "min", "max", "sum", "sorted"}
STATEMENTS = (ast.Assign, ast.AugAssign, ast.AnnAssign, ast.If, ast.While, ast.For, ast.Return, ast.Break, ast.Continue,
              ast.Pass, ast.Raise, ast.Assert, ast.Delete, ast.Match, ast.With, ast.Try, ast.FunctionDef, ast.ClassDef,
              ast.Import, ast.ImportFrom, ast.Expr, ast.Nonlocal)
PLAIN = (ast.Constant, ast.Tuple, ast.List, ast.Dict, ast.BinOp, ast.UnaryOp, ast.Name, ast.Load, ast.operator, ast.unaryop)


class Look:
    """One file of the package, with what all checks need of it."""
    def __init__(self, name, text, package_classes=(), package_methods=()):
        self.name = name
        self.text = text
        self.tree = ast.parse(text)
        self.nodes = list(ast.walk(self.tree))
        self.parents = {child: node for node in self.nodes for child in ast.iter_child_nodes(node)}
        self.functions = [node for node in self.nodes if isinstance(node, ast.FunctionDef)]
        self.classes = [node for node in self.nodes if isinstance(node, ast.ClassDef)]
        self.methods = {node.name for one in self.classes for node in one.body if isinstance(node, ast.FunctionDef)}
        self.package_classes = set(package_classes) or {one.name for one in self.classes}
        self.package_methods = set(package_methods) or self.methods
        self.imports = {alias.asname or alias.name for node in self.nodes
                        if isinstance(node, (ast.Import, ast.ImportFrom)) for alias in node.names}
        self.findings = []

    def find(self, rule, node, why):
        self.findings.append(f"{rule} {self.name}:{getattr(node, 'lineno', node)} {why}")

    def of(self, *kinds):
        return [node for node in self.nodes if isinstance(node, kinds)]

    def calls(self, name):
        return [node for node in self.of(ast.Call) if isinstance(node.func, ast.Name) and node.func.id == name]


def docstrings(look):
    found = set()
    for node in look.nodes:
        if isinstance(node, (ast.Module, ast.ClassDef, ast.FunctionDef)) and node.body:
            first = node.body[0]
            if isinstance(first, ast.Expr) and isinstance(first.value, ast.Constant) and isinstance(first.value.value, str):
                found.add(first.value)
    return found


def check_text(look):
    lines = look.text.split("\n")
    if len(lines) - 1 > 399:
        look.find("L10", len(lines), "more than 399 lines")
    for number, line in enumerate(lines, 1):
        if len(line) > 120:
            look.find("L10", number, "more than 120 characters")
        if any(not " " <= sign <= "~" for sign in line):
            look.find("L14", number, "a character beyond the space to the tilde")
    for part in NO_PARTS:
        if part in look.text:
            look.find("L17", 1, f"the word {part}")
    skipped = {node.lineno for node in docstrings(look)}
    for token in tokenize.generate_tokens(io.StringIO(look.text).readline):
        if token.type == tokenize.COMMENT or (token.type == tokenize.STRING and token.start[0] in skipped):
            continue
        if token.type == tokenize.STRING and re.search(r"\\[^nt'\"]", token.string.replace("\\\\", "")):
            look.find("L27", token.start[0], "an escape that is not allowed")
        if token.type == tokenize.NAME and token.string in NO_WORDS:
            look.find("L17", token.start[0], f"the word {token.string}")


def check_imports(look):
    for node in look.of(ast.Import):
        look.find("L16", node, "an import without from")
    for node in look.of(ast.ImportFrom):
        names = {alias.name for alias in node.names}
        own = node.level == 0 and node.module.split(".")[0] == "plainscan" and "*" not in names
        if not own and not names <= LIBRARY.get(node.module or "", set()):
            look.find("L2", node, "an import from elsewhere")
        if any(alias.asname for alias in node.names) and not own:
            look.find("L2", node, "as")
        if not isinstance(look.parents[node], ast.Module):
            look.find("L2", node, "an import that is not at the top")


def check_module_level(look):
    bound = []
    for node in look.tree.body:
        if isinstance(node, ast.Assign):
            if len(node.targets) != 1 or not isinstance(node.targets[0], ast.Name):
                look.find("L3", node, "an assignment of several names")
            bound.extend(target.id for target in node.targets if isinstance(target, ast.Name))
            if any(not isinstance(part, PLAIN) for part in ast.walk(node.value)):
                look.find("L3", node, "a value that is not plain")
        elif isinstance(node, (ast.FunctionDef, ast.ClassDef)):
            bound.append(node.name)
        elif isinstance(node, (ast.Import, ast.ImportFrom)):
            bound.extend(alias.asname or alias.name for alias in node.names)
        elif not isinstance(node, ast.Expr):
            look.find("L3", node, "a statement at module level")
    for name in set(bound):
        if bound.count(name) > 1:
            look.find("L15", 1, f"{name} is bound more than once")
    for node in look.classes:
        if not isinstance(look.parents[node], ast.Module):
            look.find("L15", node, "a class inside something")


def check_functions(look):
    for node in look.functions:
        if node.end_lineno - node.lineno + 1 > 40:
            look.find("L10", node, "a function of more than 40 lines")
        for decorator in node.decorator_list:
            if ast.unparse(decorator) not in ("property", "staticmethod", "classmethod"):
                look.find("L4", node, "a decorator")
        if node.name.startswith("__") and (node.name not in DUNDERS or not isinstance(look.parents[node], ast.ClassDef)):
            look.find("L5", node, f"the method {node.name}")
        if node.name in METHODS and node.args.kwonlyargs:
            look.find("L4", node, "a bare star in a method with the name of a method of L25")
        defaults = [one for one in node.args.defaults + node.args.kw_defaults if one is not None]
        if any(not isinstance(part, PLAIN) or isinstance(part, (ast.List, ast.Dict)) for one in defaults
               for part in ast.walk(one)):
            look.find("L4", node, "a default value that is not plain")
        if node.args.vararg or node.args.kwarg:
            look.find("L4", node, "stars among the parameters (allowed, but not used here)")
        seen = [one.arg for one in node.args.args]
        if isinstance(look.parents[node], ast.ClassDef) and seen[:1] != ["self"]:
            look.find("L5", node, "a method without self")


def check_dunders(look):
    for one in look.classes:
        if one.decorator_list:
            look.find("L5", one, "a decorator over a class")
        for node in one.body:
            if not isinstance(node, ast.FunctionDef):
                continue
            shown = [line for line in node.body if not (isinstance(line, ast.Expr) and isinstance(line.value, ast.Constant))]
            code = "\n".join(ast.unparse(line) for line in shown)
            if node.name == "__eq__" and not code.startswith((f"return isinstance(other, {one.name}) and ",
                                                              f"if not isinstance(other, {one.name}):\n    return False")):
                look.find("L28", node, "an __eq__ that does not ask for the class first")
            if node.name == "__bool__" and code != "return True":
                look.find("L5", node, "objects are true")
            if node.name == "__len__" and not re.fullmatch(r"return len\([\w.]+\)", code):
                look.find("L28", node, "a __len__ that is not return len(..)")
            if node.name == "__init__" and any(isinstance(part, ast.Return) for part in ast.walk(node)):
                look.find("L28", node, "an __init__ that returns")


def check_exits(look):
    """An __exit__ puts attributes and names into attributes, if an error came or if none did, and does nothing else."""
    for node in look.functions:
        if node.name != "__exit__":
            continue
        if [one.arg for one in node.args.args] != ["self", "kind", "value", "trace"]:
            look.find("L6", node, "an __exit__ with other parameters")
        for part in ast.walk(node):
            if isinstance(part, ast.stmt) and part is not node and not is_exit_row(part):
                look.find("L6", part, "a row that may not stand in an __exit__")


def is_exit_row(row):
    if isinstance(row, ast.If):
        return ast.unparse(row.test) in ("kind is None", "kind is not None")
    if isinstance(row, ast.Assign) and len(row.targets) == 1:
        named = isinstance(row.targets[0], ast.Name) and re.fullmatch(r"self\.\w+", ast.unparse(row.value))
        return named or isinstance(row.targets[0], ast.Attribute) and isinstance(row.value, (ast.Attribute, ast.Name))
    return isinstance(row, ast.Pass) or isinstance(row, ast.Expr) and isinstance(row.value, ast.Constant)


def check_statements(look):
    for node in look.of(ast.stmt):
        if not isinstance(node, STATEMENTS):
            look.find("L6", node, "a statement that is not allowed")
    for node in look.of(ast.Expr):
        value = node.value
        if not isinstance(value, (ast.Call, ast.Yield, ast.YieldFrom)) and value not in docstrings(look):
            look.find("L6", node, "an expression alone")
    for node in look.of(ast.Raise):
        called = isinstance(node.exc, ast.Call) and isinstance(node.exc.func, ast.Name)
        if node.exc is not None and not called:
            look.find("L19", node, "an error that is not created on the spot")
    for node in look.of(ast.ExceptHandler):
        told = [] if node.type is None else [ast.unparse(node.type)]
        if told not in (["KeyError"],) and not set(told) & look.package_classes:
            look.find("L19", node, "a handler to look at")


def check_names(look):
    tokens = list(tokenize.generate_tokens(io.StringIO(look.text).readline))
    for at, token in enumerate(tokens):
        if token.type != tokenize.NAME or keyword.iskeyword(token.string):
            continue
        name = token.string
        dotted = at > 0 and tokens[at - 1].string == "."
        if name.startswith("__") and name not in DUNDERS | {"__class__", "__name__"}:
            look.find("L12", token.start[0], f"the name {name}")
        if name in NO_NAMES and not dotted:
            look.find("L17", token.start[0], f"the name {name}")
    for node in look.of(ast.Name):
        if isinstance(node.ctx, ast.Load):
            if hasattr(builtins, node.id) and node.id not in ALLOWED_BUILTINS | MAY_BE_LOCAL:
                look.find("L8", node, f"the builtin {node.id}")
            if node.id == "_":
                look.find("L12", node, "_ is read")
    for name, node in bound_names(look):
        if hasattr(builtins, name) and name not in MAY_BE_LOCAL:
            look.find("L15", node, f"{name} has the name of a builtin")
        if name in look.imports or name in {one.name for one in look.classes}:
            look.find("L15", node, f"{name} has the name of an import or a class")


def check_inner_comprehensions(look):
    """The variables of a comprehension inside another one are not names that stand further out."""
    comprehensions = (ast.ListComp, ast.SetComp, ast.DictComp, ast.GeneratorExp)
    for node in look.of(*comprehensions):
        around, is_inner = look.parents[node], False
        while not isinstance(around, (ast.FunctionDef, ast.Module)):
            is_inner = is_inner or isinstance(around, (*comprehensions, ast.Lambda))
            around = look.parents[around]
        own = set(ast.walk(node))
        named = {part.id for one in node.generators for part in ast.walk(one.target) if isinstance(part, ast.Name)}
        others = {part.id for part in ast.walk(around) if isinstance(part, ast.Name) and isinstance(part.ctx, ast.Store)
                  and part not in own} | {part.arg for part in ast.walk(around) if isinstance(part, ast.arg)}
        if is_inner and named & others - {"_"}:
            look.find("L7", node, f"an inner comprehension over {named & others}")


def bound_names(look):
    """The names of functions, parameters and local variables, with where they are bound."""
    found = [(node.arg, node) for node in look.of(ast.arg)]
    found.extend((node.id, node) for node in look.of(ast.Name) if isinstance(node.ctx, ast.Store))
    found.extend((node.name, node) for node in look.functions if not isinstance(look.parents[node], ast.ClassDef))
    return found


def check_values(look):
    skipped = docstrings(look)
    for node in look.of(ast.Constant):
        if isinstance(node.value, (float, complex, bytes)):
            look.find("L7", node, "a float, or bytes")
        if isinstance(node.value, str) and node not in skipped:
            if "%" in node.value:
                look.find("L27", node, "the percent sign in a string")
            if node.value.endswith(("._", ".__")) or re.fullmatch("__.*__", node.value):
                look.find("L27", node, "a string that looks like a hidden name")
    for node in look.of(ast.Div):
        look.find("L7", 0, "/")
    for node in look.of(ast.Pow):
        power = look.parents[node].right
        if not (isinstance(power, ast.Constant) and 0 <= power.value <= 64):
            look.find("L27", power, "an exponent that is no literal")
    for node in look.of(ast.Compare):
        for operator, right in zip(node.ops, node.comparators):
            if isinstance(operator, (ast.Is, ast.IsNot)):
                constant = isinstance(right, ast.Constant) and right.value in (None, True, False)
                if not constant and not ast.unparse(node.left).startswith("type("):
                    look.find("L20", node, "is between other things")
    for node in look.of(ast.Await, ast.Yield, ast.YieldFrom, ast.NamedExpr, ast.Global, ast.Lambda):
        if not isinstance(node, ast.Lambda):
            look.find("L6", node, "something that this package does without")
    for node in look.calls("type"):
        around = look.parents[node]
        if not isinstance(around, ast.Compare):
            look.find("L8", node, "type outside of a comparison")
        elif ast.unparse(around.comparators[0]).startswith("type(") and not isinstance(around.ops[0], ast.Is):
            look.find("L8", node, "two calls of type that are not asked whether they are the same")


def check_at_once(look):
    for node in look.of(ast.Call):
        named = isinstance(node.func, ast.Name) and node.func.id in AT_ONCE
        viewed = isinstance(node.func, ast.Attribute) and node.func.attr in ("items", "keys", "values")
        if (named or viewed) and not iterated(look, node):
            look.find("L23", node, "not iterated at once")
    for node in look.of(ast.GeneratorExp):
        parent = look.parents[node]
        called = isinstance(parent, ast.Call) and isinstance(parent.func, ast.Name) and parent.func.id
        if called not in TAKERS or called in WANT_LISTS:
            look.find("L7", node, "a generator expression; a list is wanted")


def iterated(look, node):
    parent = look.parents[node]
    if isinstance(parent, (ast.For, ast.comprehension)):
        return parent.iter is node
    if isinstance(parent, ast.Call) and isinstance(parent.func, ast.Name):
        if parent.func.id == "reversed" and isinstance(node.func, ast.Name):
            return node.func.id == "range"
        return parent.func.id in TAKERS and parent.args[0] is node or parent.func.id == "zip"
    if isinstance(parent, ast.Call) and isinstance(parent.func, ast.Attribute):
        return parent.func.attr == "join" and isinstance(parent.func.value, ast.Constant)
    return False


def check_sets(look):
    for node in look.of(ast.Set, ast.SetComp) + look.calls("set"):
        parent = look.parents[node]
        fine = isinstance(parent, ast.Compare) or (
            isinstance(parent, ast.Call) and isinstance(parent.func, ast.Name) and parent.func.id in ("sorted", "len"))
        stored = isinstance(parent, ast.Assign) and isinstance(parent.targets[0], ast.Name)
        if isinstance(node, ast.Set) and any(isinstance(one, ast.Starred) for one in node.elts):
            look.find("L7", node, "a star in a set")
        if not fine and not (stored and plainly_used(look, parent)):
            look.find("L24", node, "a set where none may stand")


def plainly_used(look, assignment):
    """Whether a stored set is only added to, asked, measured and sorted."""
    name, function = assignment.targets[0].id, look.parents[assignment]
    while not isinstance(function, ast.FunctionDef):
        function = look.parents[function]
    for node in ast.walk(function):
        if isinstance(node, ast.Name) and node.id == name and node is not assignment.targets[0]:
            parent = look.parents[node]
            asked = isinstance(parent, ast.Compare) and node in parent.comparators
            called = isinstance(parent, ast.Call) and isinstance(parent.func, ast.Name) and parent.func.id in ("len", "sorted")
            added = isinstance(parent, ast.Attribute) and parent.attr in ("add", "discard")
            if not (asked or called or added):
                return False
    return True


def check_attributes(look):
    for node in look.of(ast.Attribute):
        if isinstance(node.ctx, ast.Store) and node.attr in NO_ATTRIBUTES:
            look.find("L26", node, f"the attribute {node.attr}")
        if node.attr.startswith("__") and ast.unparse(node).split(".")[-1] not in ("__init__",):
            look.find("L12", node, f"the attribute {node.attr}")
    for node in look.of(ast.Call):
        if isinstance(node.func, ast.Attribute):
            name = node.func.attr
            if name not in METHODS | look.package_methods | {"__init__"}:
                look.find("L25", node, f"the method {name}")
            if name in METHODS and node.keywords:
                look.find("L25", node, f"keywords with {name}")
            if name == "sort":
                look.find("L25", node, "sort")
        elif isinstance(node.func, ast.Constant):
            look.find("L7", node, "a literal is called")


CHECKS = (check_text, check_imports, check_module_level, check_functions, check_dunders, check_exits, check_statements, check_names,
          check_inner_comprehensions, check_values, check_at_once, check_sets, check_attributes)


def findings(name, text, package_classes=(), package_methods=()):
    look = Look(name, text, package_classes, package_methods)
    for check in CHECKS:
        check(look)
    return look.findings


def imported(text):
    """The modules of the package that a file imports from."""
    return {node.module for node in ast.walk(ast.parse(text)) if isinstance(node, ast.ImportFrom)
            and node.module.startswith("plainscan")}
