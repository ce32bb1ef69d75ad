"""Checks of the language rules that a program can see. Each finding is a string: rule, file, line, what is wrong.

This covers the rules that the present package can come near to; the others have to be read by a person.
"""

import ast
import builtins
import re

ALLOWED_BUILTINS = set(
    "len range enumerate zip min max sum abs sorted reversed int str bool bytes list tuple dict set isinstance ord "
    "repr any all divmod iter next map property staticmethod classmethod super "
    "Exception ValueError TypeError KeyError IndexError LookupError ZeroDivisionError ArithmeticError OverflowError "
    "RuntimeError NotImplementedError AttributeError StopIteration NotImplemented".split()
)
ALLOWED_METHODS = set(
    "append clear copy count endswith extend find get index insert isalnum isalpha isdigit islower isspace isupper "
    "items join keys ljust lower lstrip partition pop remove replace reverse rfind rjust rpartition rsplit rstrip "
    "setdefault split splitlines startswith strip update upper values zfill bit_length "
    "title capitalize swapcase casefold center expandtabs removeprefix removesuffix rindex isascii isdecimal isnumeric "
    "istitle isidentifier isprintable translate add discard".split()
)
VALUE_METHODS = {
    name
    for kind in (str, bytes, int, list, tuple, dict, set)
    for name in dir(kind)
    if not name.startswith("__")
}
FRAME_NAMES = set(
    "f_back f_builtins f_code f_globals f_lasti f_lineno f_locals f_trace tb_frame tb_lasti tb_lineno tb_next "
    "co_code co_consts co_names co_varnames".split()
)
BARRED_EVERYWHERE = FRAME_NAMES | set(
    "register mro elements open input law version_info with_traceback add_note".split()
)
BARRED_AS_NAMES = set(
    "attrgetter breakpoint builtins compile copyright credits delattr dir eval exec exit gc getattr globals hasattr "
    "help id importlib license locals methodcaller os quit setattr super type vars sys __name__".split()
)
BARRED_WORDS = (
    "typing typing_extensions enum Enum IntEnum StrEnum Flag IntFlag Generic Protocol ABC ABCMeta namedtuple "
    "NamedTuple TypedDict TYPE_CHECKING abstractmethod".split()
)
BARRED_PARTS = ("dataclass", "overload", "contextmanager")
BARRED_BEGINNINGS = ("_wall", "_pe_", "_dcw_", "_enum_", "_cm_", "_twin_re_", "_lay_", "_law_", "_stub_", "_sre")
BARRED_PRIVATE = ("_cold", "_tuplegetter", "_outside", "_record", "_written_out", "_member_names")
BARRED_FILES = ("test", "tests", "testing", "site", "conftest", "sitecustomize", "usercustomize")
SPECIAL_METHODS = set(
    "init eq repr str len enter exit call iter lt le gt ge ne add sub mul floordiv mod pow and or xor lshift rshift "
    "radd rsub rmul rfloordiv rmod rand ror rxor rlshift rrshift iadd isub imul ifloordiv imod ipow iand ior ixor "
    "ilshift irshift neg pos invert abs bool contains getitem setitem".split()
)
ONE_OPERAND = ("neg", "pos", "invert", "abs", "bool", "len", "iter", "str", "repr")
LAZY_CALLS = ("range", "zip", "enumerate", "reversed", "map")
LAZY_METHODS = ("items", "keys", "values")
TAKERS = ("list", "tuple", "dict", "sorted", "sum", "any", "all", "enumerate", "zip", "min", "max")
KEYWORDS = {
    "sorted": ("key", "reverse"), "min": ("key", "default"), "max": ("key", "default"), "sum": ("start",),
    "enumerate": ("start",), "zip": ("strict",),
}
FREELY_CAUGHT = ("KeyError", "ZeroDivisionError")
FUNCTIONS = (ast.FunctionDef, ast.AsyncFunctionDef)
SCOPES = (*FUNCTIONS, ast.Lambda, ast.ClassDef, ast.Module)


class Source:
    """One file of the package, parsed."""

    def __init__(self, name, text):
        self.name = name
        self.text = text
        self.tree = ast.parse(text)
        self.parents = {child: node for node in ast.walk(self.tree) for child in ast.iter_child_nodes(node)}
        self.docstrings = {
            node.body[0].value
            for node in ast.walk(self.tree)
            if isinstance(node, (*FUNCTIONS, ast.ClassDef, ast.Module)) and ast.get_docstring(node) is not None
        }

    def found(self, rule, node, what):
        # Signs have no line of their own; what stands around them has.
        while not isinstance(node, int) and not hasattr(node, "lineno") and node in self.parents:
            node = self.parents[node]
        line = node if isinstance(node, int) else getattr(node, "lineno", 1)
        return f"{rule} {self.name}:{line} {what}"

    def nodes(self, *kinds):
        return [node for node in ast.walk(self.tree) if isinstance(node, kinds)]

    def strings(self):
        return [
            node
            for node in self.nodes(ast.Constant)
            if isinstance(node.value, str) and node not in self.docstrings
        ]

    def scope(self, node):
        node = self.parents[node]
        while not isinstance(node, SCOPES):
            node = self.parents[node]
        return node

    def imported(self):
        return {
            alias.asname or alias.name: (node.module, alias.name)
            for node in self.nodes(ast.ImportFrom)
            for alias in node.names
        }

    def defined(self):
        """The names that the file itself binds at module level, a name bound twice standing twice."""
        names = []
        for node in self.tree.body:
            if isinstance(node, (*FUNCTIONS, ast.ClassDef)):
                names.append(node.name)
            elif isinstance(node, ast.Assign):
                names.extend([target.id for target in node.targets if isinstance(target, ast.Name)])
        return names


def check_package(files):
    """All findings for a package: a dict of file names (within the package) and their texts."""
    sources = [Source(name, text) for name, text in sorted(files.items())]
    findings = check_file_names(files)
    for source in sources:
        for check in FILE_CHECKS:
            findings.extend(check(source))
    for check in PACKAGE_CHECKS:
        findings.extend(check(sources))
    return findings


def check_file_names(files):
    findings = [] if "__init__.py" in files else ["L14 the package has no __init__.py"]
    for name in files:
        stem = name.removesuffix(".py")
        if not name.endswith(".py"):
            findings.append(f"L1 {name} is no .py file")
        elif stem in ("__init__", "__main__"):
            pass
        elif not re.fullmatch(r"[a-z][a-z0-9_]*", stem):
            findings.append(f"L14 {name} is no plain lower-case name")
        elif (
            stem in BARRED_FILES
            or stem in BARRED_EVERYWHERE
            or stem in BARRED_WORDS
            or hasattr(builtins, stem)
            or stem.startswith(("test_", "law_"))
        ):
            findings.append(f"L14 {name} is a barred name")
    return findings


def check_text(source):
    findings = []
    lines = source.text.split("\n")
    if len(source.text.splitlines()) > 399:
        findings.append(source.found("L10", 400, "more than 399 lines"))
    for at, line in enumerate(lines, start=1):
        if len(line) > 120:
            findings.append(source.found("L10", at, "more than 120 characters"))
        if any(not " " <= sign <= "~" for sign in line):
            findings.append(source.found("L14", at, "a character that is not allowed"))
        if re.search(r"\\(?![nt\\'\"])", line):
            findings.append(source.found("L27", at, "an escape that is not allowed"))
        if re.search(r"\b(_wall|_WallAttr)\b", line):
            findings.append(source.found("L12", at, "a barred word"))
        if re.search(r"\(type\)|Meta|metaclass=", line):
            findings.append(source.found("L17", at, "a barred word"))
    return findings


def check_words(source):
    findings = []
    spoken = [(node, node.value) for node in source.strings()]
    spoken += [(node, name) for node, name in all_names(source)]
    for node, text in spoken:
        words = re.findall(r"\w+", text)
        if any(word in BARRED_WORDS for word in words) or any(part in text for part in BARRED_PARTS):
            findings.append(source.found("L17", node, f"a barred word in {text!r}"))
    for node in source.strings():
        text = node.value
        if "%" in text or text.endswith(("._", ".__")) or text in FRAME_NAMES:
            findings.append(source.found("L27", node, f"a string that is not allowed: {text!r}"))
        if text != "__main__" and len(text) > 3 and text.startswith("__") and text.endswith("__"):
            findings.append(source.found("L27", node, f"a string that is not allowed: {text!r}"))
    return findings


def all_names(source):
    """Every name that occurs in the file, with its node."""
    rows = []
    for node in ast.walk(source.tree):
        if isinstance(node, ast.Name):
            rows.append((node, node.id))
        elif isinstance(node, ast.Attribute):
            rows.append((node, node.attr))
        elif isinstance(node, (*FUNCTIONS, ast.ClassDef)):
            rows.append((node, node.name))
        elif isinstance(node, ast.arg):
            rows.append((node, node.arg))
        elif isinstance(node, ast.keyword) and node.arg is not None:
            rows.append((node, node.arg))
        elif isinstance(node, ast.alias):
            rows.append((node, node.name))
        elif isinstance(node, ast.ExceptHandler) and node.name is not None:
            rows.append((node, node.name))
    return rows


def bound_in(source):
    """Every name that is bound as a variable, function, class, import, parameter or caught error, with its node.

    Methods are not among them: they follow other rules.
    """
    rows = []
    for node in ast.walk(source.tree):
        if isinstance(node, ast.Name) and not isinstance(node.ctx, ast.Load):
            rows.append((node, node.id))
        elif isinstance(node, FUNCTIONS) and not isinstance(source.parents[node], ast.ClassDef):
            rows.append((node, node.name))
        elif isinstance(node, ast.ClassDef):
            rows.append((node, node.name))
        elif isinstance(node, ast.arg):
            rows.append((node, node.arg))
        elif isinstance(node, ast.alias):
            rows.append((node, node.asname or node.name))
        elif isinstance(node, ast.ExceptHandler) and node.name is not None:
            rows.append((node, node.name))
    return rows


def methods_in(source):
    return [node for node in source.nodes(*FUNCTIONS) if isinstance(source.parents[node], ast.ClassDef)]


def check_names(source):
    findings = []
    for node, name in all_names(source):
        if name in BARRED_EVERYWHERE:
            findings.append(source.found("L17", node, f"the name {name}"))
    for node, name in bound_in(source):
        if name in BARRED_AS_NAMES:
            findings.append(source.found("L17", node, f"the name {name}"))
        if hasattr(builtins, name):
            findings.append(source.found("L15", node, f"{name} is the name of a builtin"))
        if name != "_" and not re.fullmatch(r"_?[A-Za-z][A-Za-z0-9_]*", name):
            findings.append(source.found("L12", node, f"the name {name}"))
        if name.startswith(BARRED_BEGINNINGS) or re.fullmatch("(%s)[0-9_]*" % "|".join(BARRED_PRIVATE), name):
            findings.append(source.found("L12", node, f"the name {name}"))
    for node in methods_in(source):
        special = re.fullmatch("__([a-z]+)__", node.name)
        if special and special[1] not in SPECIAL_METHODS:
            findings.append(source.found("L5", node, f"the method {node.name}"))
        if not special and not re.fullmatch(r"_?[A-Za-z][A-Za-z0-9_]*", node.name):
            findings.append(source.found("L12", node, f"the method {node.name}"))
        if node.name in BARRED_AS_NAMES or node.name in ALLOWED_BUILTINS - {"next", "map"}:
            findings.append(source.found("L17", node, f"the method {node.name}"))
    for node in source.nodes(ast.ClassDef):
        if node.name.startswith("_"):
            findings.append(source.found("L12", node, "a class whose name does not begin with a letter"))
    return findings


def check_shadows(source):
    """L15: no local name is that of a class or an import of the file; nothing is bound twice at module level."""
    findings = []
    outer = set(source.imported()) | {node.name for node in source.nodes(ast.ClassDef)}
    for node, name in bound_in(source):
        if name in outer and isinstance(node, (ast.Name, ast.arg, ast.FunctionDef)):
            findings.append(source.found("L15", node, f"{name} is a class or an import of this file"))
    names = source.defined() + list(source.imported())
    for name in sorted(set(names)):
        if names.count(name) > 1:
            findings.append(source.found("L15", 1, f"{name} is bound twice"))
    return findings


def check_builtins(source):
    """L8: no builtin is used but those of the list. L27: no chr."""
    return [
        source.found("L8", node, f"the builtin {node.id}")
        for node in source.nodes(ast.Name)
        if isinstance(node.ctx, ast.Load) and hasattr(builtins, node.id) and node.id not in ALLOWED_BUILTINS
    ]


def check_module_level(source):
    findings = []
    behind_imports = False
    for at, node in enumerate(source.tree.body):
        is_import = isinstance(node, (ast.Import, ast.ImportFrom))
        is_docstring = at == 0 and isinstance(node, ast.Expr) and node.value in source.docstrings
        if is_import and behind_imports:
            findings.append(source.found("L2", node, "an import that does not stand at the top"))
        behind_imports = behind_imports or not (is_import or is_docstring)
        if is_import or is_docstring or isinstance(node, (ast.FunctionDef, ast.ClassDef)):
            continue
        if not isinstance(node, ast.Assign) or len(node.targets) != 1 or not isinstance(node.targets[0], ast.Name):
            findings.append(source.found("L3", node, "a statement that may not stand at module level"))
        elif any(not isinstance(part, PLAIN) for part in ast.walk(node.value)):
            findings.append(source.found("L3", node, "a value that is not plain"))
        elif is_nested(node.value):
            findings.append(source.found("L15", node, "a list or dict inside a list, tuple or dict"))
    return findings


PLAIN = (
    ast.Constant, ast.List, ast.Tuple, ast.Dict, ast.Name, ast.UnaryOp, ast.BinOp, ast.operator, ast.unaryop,
    ast.expr_context,
)


def is_nested(value):
    return any(
        isinstance(part, (ast.List, ast.Dict))
        for part in ast.walk(value)
        if part is not value
    )


def check_imports(source):
    findings = []
    for node in source.nodes(ast.Import, ast.ImportFrom):
        if source.parents[node] is not source.tree:
            findings.append(source.found("L2", node, "an import inside a function or class"))
        if isinstance(node, ast.Import):
            findings.append(source.found("L16", node, "an import without from"))
        elif node.level or not (node.module or "").startswith("bindspan.") or node.names[0].name == "*":
            findings.append(source.found("L2", node, f"an import from {node.module}"))
    return findings


def check_functions(source):
    findings = []
    for node in source.nodes(*FUNCTIONS):
        if node.end_lineno - node.lineno + 1 > 40:
            findings.append(source.found("L10", node, f"{node.name} has more than 40 lines"))
        for mark in node.decorator_list:
            plain = isinstance(mark, ast.Name) and mark.id in ("property", "staticmethod", "classmethod")
            setter = isinstance(mark, ast.Attribute) and mark.attr == "setter"
            if not (plain or setter) or not isinstance(source.parents[node], ast.ClassDef):
                findings.append(source.found("L4", node, "a decorator"))
    for node in source.nodes(ast.ClassDef):
        if node.decorator_list or node.keywords:
            findings.append(source.found("L5", node, "a decorator or keyword of a class"))
        if source.parents[node] is not source.tree:
            findings.append(source.found("L15", node, "a class that is not at module level"))
        names = [row.name for row in node.body if isinstance(row, FUNCTIONS) and not is_setter(row)]
        if len(set(names)) != len(names):
            findings.append(source.found("L18", node, "a method that is defined twice"))
    return findings


def is_setter(node):
    return any(isinstance(mark, ast.Attribute) for mark in node.decorator_list)


FORBIDDEN = (
    (ast.Global, "L6", "global"), (ast.AsyncFunctionDef, "L6", "async"), (ast.Await, "L6", "await"),
    (ast.AsyncFor, "L6", "async"), (ast.AsyncWith, "L6", "async"), (ast.Div, "L7", "/"), (ast.MatMult, "L7", "@"),
    (ast.Match, "L6", "match is not used here: see its rule first"),
    (ast.GeneratorExp, "L7", "a generator expression: take a list"),
    (ast.With, "L6", "with is not used here: see its rule first"),
)


def check_statements(source):
    findings = []
    for kind, rule, what in FORBIDDEN:
        findings.extend([source.found(rule, node, what) for node in source.nodes(kind)])
    for node in source.nodes(ast.Constant):
        if isinstance(node.value, (float, complex)) or node.value is Ellipsis:
            findings.append(source.found("L7", node, f"the value {node.value!r}"))
    for node in source.nodes(ast.Compare):
        sides = [node.left, *node.comparators]
        for at, sign in enumerate(node.ops):
            pair = sides[at:at + 2]
            if isinstance(sign, (ast.Is, ast.IsNot)) and not any(is_single(side) for side in pair):
                findings.append(source.found("L20", node, "is beside what is not None, True or False"))
    for node in source.nodes(ast.BinOp):
        if isinstance(node.op, ast.Pow) and not is_small(node.right):
            findings.append(source.found("L27", node, "a power without a literal exponent from 0 to 64"))
    for node in source.nodes(ast.JoinedStr):
        if node.end_lineno != node.lineno:
            findings.append(source.found("L27", node, "an f-string over two lines"))
    return findings


def is_single(node):
    return isinstance(node, ast.Constant) and (node.value is None or isinstance(node.value, bool))


def is_small(node):
    return isinstance(node, ast.Constant) and isinstance(node.value, int) and 0 <= node.value <= 64


def check_errors(source):
    findings = []
    for node in source.nodes(ast.Raise):
        bare = node.exc is None and inside(source, node, ast.ExceptHandler)
        if not bare and not (isinstance(node.exc, ast.Call) and isinstance(node.exc.func, ast.Name)):
            findings.append(source.found("L19", node, "a raise that does not create its error"))
    for node in source.nodes(ast.ExceptHandler):
        kinds = node.type.elts if isinstance(node.type, ast.Tuple) else [node.type]
        own = set(source.imported()) | set(source.defined())
        for kind in kinds:
            if not isinstance(kind, ast.Name) or kind.id not in (*FREELY_CAUGHT, *own):
                findings.append(source.found("L19", node, "a caught error of Python's own"))
    return findings


def inside(source, node, kind):
    while node in source.parents:
        node = source.parents[node]
        if isinstance(node, kind):
            return True
    return False


def check_calls(source):
    findings = []
    for node in source.nodes(ast.Call):
        called = node.func
        if isinstance(called, ast.Attribute):
            name = called.attr
            if name in VALUE_METHODS and name not in ALLOWED_METHODS:
                findings.append(source.found("L25", node, f"the method {name}"))
            if name in VALUE_METHODS and node.keywords:
                findings.append(source.found("L22", node, f"a keyword of {name}"))
        elif isinstance(called, ast.Name) and hasattr(builtins, called.id):
            allowed = KEYWORDS.get(called.id, ())
            if any(word.arg not in allowed for word in node.keywords):
                findings.append(source.found("L22", node, f"a keyword of {called.id}"))
            if called.id == "reversed" and not is_listed(node.args[0]):
                findings.append(source.found("L5", node, "reversed beside __getitem__ takes a list"))
    return findings


def is_listed(node):
    if isinstance(node, (ast.List, ast.Tuple)):
        return True
    return isinstance(node, ast.Call) and isinstance(node.func, ast.Name) and node.func.id in (
        "list", "tuple", "sorted", "range",
    )


def check_passed(sources):
    """L25: a method is called where it stands, never passed on, except an own method as a key."""
    findings = []
    rows = [(source, node) for source in sources for node in methods_in(source)]
    methods = {node.name for _, node in rows if not is_property(node) and not is_setter(node)}
    stored = {
        node.attr for source in sources for node in source.nodes(ast.Attribute) if isinstance(node.ctx, ast.Store)
    }
    for source in sources:
        for node in source.nodes(ast.Attribute):
            above = source.parents[node]
            called = isinstance(above, ast.Call) and above.func is node
            as_key = isinstance(above, ast.keyword) and above.arg == "key" and node.attr not in VALUE_METHODS
            method = node.attr in methods | VALUE_METHODS and node.attr not in stored
            if method and isinstance(node.ctx, ast.Load) and not called and not as_key:
                findings.append(source.found("L25", node, f"the method {node.attr} is passed on"))
    return findings


def called_name(node):
    return node.func.id if isinstance(node, ast.Call) and isinstance(node.func, ast.Name) else ""


def is_iterated(source, node):
    """Whether the value of a node is iterated over at once."""
    above = source.parents[node]
    if isinstance(above, (ast.For, ast.comprehension)):
        return above.iter is node
    if isinstance(above, ast.YieldFrom):
        return True
    if isinstance(above, ast.Call) and above.args and above.args[0] is node:
        joined = isinstance(above.func, ast.Attribute) and above.func.attr == "join"
        return called_name(above) in TAKERS or joined and isinstance(above.func.value, ast.Constant)
    return called_name(above) in ("zip", "enumerate")


def check_lazy(source):
    """L23: what gives its items one by one is iterated at once."""
    findings = []
    for node in source.nodes(ast.Call):
        lazy = called_name(node) in LAZY_CALLS
        lazy = lazy or isinstance(node.func, ast.Attribute) and node.func.attr in LAZY_METHODS
        above = source.parents[node]
        tested = isinstance(above, ast.Compare) and called_name(node) == "range"
        measured = called_name(above) == "len" and called_name(node) in ("range", "")
        turned = called_name(above) == "reversed" and called_name(node) == "range"
        if lazy and not (is_iterated(source, node) or tested or measured or turned):
            findings.append(source.found("L23", node, "not iterated at once"))
    return findings


def check_sets(source):
    """L24, more narrowly than the rule: sets stand in sorted, in len, behind in, or in a variable of their own."""
    findings = []
    for node in source.nodes(ast.Set, ast.SetComp, ast.Call):
        if isinstance(node, ast.Call) and called_name(node) not in ("set", "frozenset"):
            continue
        above = source.parents[node]
        while isinstance(above, ast.BinOp):
            above = source.parents[above]
        held = isinstance(above, ast.Call) and called_name(above) in ("sorted", "len")
        tested = isinstance(above, ast.Compare)
        stored = isinstance(above, ast.Assign) and isinstance(source.scope(above), FUNCTIONS)
        if called_name(node) == "frozenset" or not (held or tested or stored):
            findings.append(source.found("L24", node, "a set that may not stand there"))
    return findings


def check_special_methods(source):
    findings = []
    for node in methods_in(source):
        rows = [row for row in node.body if not (isinstance(row, ast.Expr) and row.value in source.docstrings)]
        returns = [row for row in ast.walk(node) if isinstance(row, ast.Return)]
        name = node.name.strip("_") if node.name.startswith("__") else ""
        if name == "init" and returns:
            findings.append(source.found("L28", node, "a return in __init__"))
        if name == "len" and any(not is_length(row.value) for row in returns):
            findings.append(source.found("L28", node, "a return of __len__ other than len(..)"))
        if name == "iter" and not (len(rows) == 1 and isinstance(rows[0], (ast.Return, ast.Raise))):
            findings.append(source.found("L5", node, "__iter__ has one statement"))
        if name in ("len", "str", "repr") and not isinstance(node.body[-1], ast.Return):
            findings.append(source.found("L28", node, "the last statement is no return"))
        wanted = 1 if name in ONE_OPERAND else 2
        if name and name not in ("init", "exit", "call", "setitem", "enter"):
            if len(node.args.args) != wanted or node.args.defaults or node.args.vararg or node.args.kwonlyargs:
                findings.append(source.found("L5", node, f"the parameters of {node.name}"))
        if name and name not in ("init", "enter", "exit", "call", "setitem"):
            findings.extend(changes_in(source, node))
        if name == "enter" and len(node.args.args) != 1:
            findings.append(source.found("L6", node, "the parameters of __enter__"))
        if name == "exit":
            findings.extend(check_exit(source, node, rows))
    for node in source.nodes(ast.ClassDef):
        names = [row.name for row in node.body if isinstance(row, FUNCTIONS)]
        if "__getitem__" in names and "__iter__" not in names:
            findings.append(source.found("L5", node, "__getitem__ without __iter__"))
    return findings


def changes_in(source, function):
    """Assignments of attributes and items in a double-underscore method."""
    return [
        source.found("L28", node, f"{function.name} changes something")
        for node in ast.walk(function)
        if isinstance(node, (ast.Attribute, ast.Subscript)) and not isinstance(node.ctx, ast.Load)
    ]


def check_exit(source, node, rows):
    """L6 With, more narrowly than the rule: only simple statements without tests."""
    findings = []
    if [row.arg for row in node.args.args] != ["self", "kind", "value", "trace"] or node.args.defaults:
        findings.append(source.found("L6", node, "the parameters of __exit__"))
    read = {row.id for row in ast.walk(node) if isinstance(row, ast.Name) and isinstance(row.ctx, ast.Load)}
    if read & {"kind", "value", "trace"} or not all(is_simple_row(row) for row in rows):
        findings.append(source.found("L6", node, "__exit__ does more than it may"))
    return findings


def check_finally(source):
    """L6 Finally, more narrowly than the rule: only simple statements without tests."""
    return [
        source.found("L6", row, "more than may stand in a finally")
        for node in source.nodes(ast.Try)
        for row in node.finalbody
        if not is_simple_row(row)
    ]


def is_simple_row(row):
    """Whether a statement only assigns names, attributes and literals to names and attributes."""
    if isinstance(row, ast.Assign):
        target = row.targets[0]
        parts = target.elts if isinstance(target, ast.Tuple) else [target]
        return len(row.targets) == 1 and all(is_dotted(part) for part in parts) and is_simple(row.value)
    # The package has arithmetic methods, so there is no + and no - in such places, not even with a literal.
    return isinstance(row, ast.Pass)


def is_simple(node):
    if isinstance(node, (ast.Tuple, ast.List)):
        return all(is_simple(part) for part in node.elts)
    return isinstance(node, ast.Constant) or is_dotted(node)


def is_dotted(node):
    """Whether a node is a name or an attribute of such."""
    while isinstance(node, ast.Attribute):
        node = node.value
    return isinstance(node, ast.Name)


def is_property(node):
    return any(isinstance(mark, ast.Name) and mark.id == "property" for mark in node.decorator_list)


def is_fixed(node):
    """Whether a method is a static or a class method."""
    return any(isinstance(mark, ast.Name) and mark.id != "property" for mark in node.decorator_list)


def check_decorated(sources):
    """L5 Properties, static and class methods: their names mean nothing else."""
    findings = []
    rows = [(source, node) for source in sources for node in methods_in(source)]
    properties = {node.name for _, node in rows if is_property(node)}
    fixed = {node.name for _, node in rows if is_fixed(node)}
    plain = {node.name for _, node in rows if not node.decorator_list}
    stored = {
        (source.scope(node), node.attr): (source, node)
        for source in sources
        for node in source.nodes(ast.Attribute)
        if isinstance(node.ctx, ast.Store)
    }
    for source, node in rows:
        if is_property(node) and (node.name in plain | fixed | VALUE_METHODS or len(node.args.args) != 1):
            findings.append(source.found("L5", node, f"the property {node.name}"))
        if is_setter(node) and [row.arg for row in node.args.args] != ["self", "value"]:
            findings.append(source.found("L5", node, f"the parameters of the setter of {node.name}"))
        if is_fixed(node) and node.name in plain | properties | VALUE_METHODS:
            findings.append(source.found("L5", node, f"{node.name} is a static or class method and something else"))
    settable = properties - {node.name for _, node in rows if is_property(node) and not has_setter(rows, node)}
    for (_, name), (source, node) in stored.items():
        if name in properties | fixed and (name not in settable or is_self(node.value)):
            findings.append(source.found("L5", node, f"{name} is an attribute and something else"))
    return findings


def has_setter(rows, node):
    """Whether a property has a setter in the same class."""
    return any(
        is_setter(other) and other.name == node.name and source.parents[other] is home.parents[node]
        for source, other in rows
        for home, one in rows
        if one is node
    )


CHANGING = set("append clear extend insert pop remove reverse setdefault update add discard sort".split())


def check_pure(sources):
    """L5 Operators and Properties: what they run changes nothing, and calls nothing that it is passed or holds.

    Functions and methods are followed by their names alone, so that one of that name anywhere in the package counts.
    """
    findings = []
    homes = {}
    for source in sources:
        for node in source.nodes(*FUNCTIONS):
            owner = source.parents[node]
            name = owner.name if node.name == "__init__" else node.name
            homes.setdefault(name, []).append((source, node))
    waiting = [row for rows in homes.values() for row in rows if is_operator(row[1])]
    seen = set()
    while waiting:
        source, node = waiting.pop()
        if node not in seen:
            seen.add(node)
            findings.extend(impure_in(source, node, homes))
            for call in [row for row in ast.walk(node) if isinstance(row, ast.Call)]:
                name = call.func.attr if isinstance(call.func, ast.Attribute) else called_name(call)
                waiting.extend(homes.get(name, ()))
    return findings


def is_operator(node):
    plain = ("__init__", "__enter__", "__exit__", "__call__", "__setitem__")
    return is_property(node) or node.name.startswith("__") and node.name not in plain


def impure_in(source, function, homes):
    """What a function changes that it did not make itself, and what it calls that it was passed or holds."""
    findings = []
    made = {
        row.targets[0].id
        for row in ast.walk(function)
        if isinstance(row, ast.Assign) and isinstance(row.targets[0], ast.Name) and is_new_list(row.value)
    }
    own = set(source.imported()) | set(source.defined())
    for node in ast.walk(function):
        if isinstance(node, (ast.Attribute, ast.Subscript)) and not isinstance(node.ctx, ast.Load):
            at_birth = isinstance(node, ast.Attribute) and function.name == "__init__" and is_self(node.value)
            if not at_birth:
                findings.append(source.found("L5", node, f"{function.name} changes something, and an operator runs it"))
        if isinstance(node, ast.AugAssign) and not isinstance(node.value, ast.Constant):
            findings.append(source.found("L5", node, f"{function.name} has such a sign, and an operator runs it"))
        if isinstance(node, ast.Call) and isinstance(node.func, ast.Attribute) and node.func.attr in CHANGING:
            held = node.func.value
            if not (isinstance(held, ast.Name) and held.id in made):
                findings.append(source.found("L5", node, f"{function.name} changes something, and an operator runs it"))
        elif isinstance(node, ast.Call) and isinstance(node.func, ast.Attribute):
            if node.func.attr not in homes and node.func.attr not in ALLOWED_METHODS:
                findings.append(source.found("L5", node, f"{function.name} calls what it holds, in an operator"))
        elif isinstance(node, ast.Call):
            name = called_name(node)
            if name not in own and not hasattr(builtins, name) and name != "cls":
                findings.append(source.found("L5", node, f"{function.name} calls what it was passed, in an operator"))
    return findings


def is_self(node):
    return isinstance(node, ast.Name) and node.id == "self"


def is_new_list(node):
    return isinstance(node, (ast.List, ast.ListComp)) or called_name(node) in ("list", "sorted")


def is_length(node):
    return called_name(node) == "len" or isinstance(node, ast.Constant) and isinstance(node.value, int)


def check_defaults(source):
    """L4: default values are plain."""
    findings = []
    for node in source.nodes(*FUNCTIONS, ast.Lambda):
        for value in [*node.args.defaults, *[part for part in node.args.kw_defaults if part is not None]]:
            if not all(isinstance(part, PLAIN) for part in ast.walk(value)) or isinstance(value, (ast.List, ast.Dict)):
                findings.append(source.found("L4", node, "a default value that is not plain"))
    return findings


def check_unused(source):
    """Imports and local variables that are not used."""
    findings = []
    read = {node.id for node in source.nodes(ast.Name) if isinstance(node.ctx, ast.Load)}
    # The functions of a table are called in one way, so they share their parameters.
    listed = {
        part.id
        for node in source.tree.body
        if isinstance(node, ast.Assign)
        for part in ast.walk(node.value)
        if isinstance(part, ast.Name)
    }
    for name in source.imported():
        if name not in read:
            findings.append(source.found("unused", 1, f"the import {name}"))
    for function in source.nodes(*FUNCTIONS):
        used = {node.id for node in ast.walk(function) if isinstance(node, ast.Name) and isinstance(node.ctx, ast.Load)}
        stored = {
            node.id for node in ast.walk(function) if isinstance(node, ast.Name) and isinstance(node.ctx, ast.Store)
        }
        taken = {row.arg for row in ast.walk(function.args) if isinstance(row, ast.arg)} - {"self", "cls"}
        if function.name == "__exit__":
            taken -= {"kind", "value", "trace"}
        if function.name in listed:
            taken = set()
        for name in sorted((stored | taken) - used - {"_"}):
            findings.append(source.found("unused", function, f"the variable {name}"))
        if "_" in used:
            findings.append(source.found("L12", function, "_ is read"))
    return findings


def check_import_targets(sources):
    """L16: an import names the file that defines the name, and no two files import from each other."""
    findings = []
    defined = {"bindspan." + source.name.removesuffix(".py"): source.defined() for source in sources}
    imports = {}
    for source in sources:
        home = "bindspan." + source.name.removesuffix(".py")
        imports[home] = sorted({module for module, _ in source.imported().values()})
        for module, name in source.imported().values():
            if name not in defined.get(module, ()):
                findings.append(source.found("L16", 1, f"{module} does not define {name}"))
    for home in imports:
        reached, waiting = set(), list(imports[home])
        while waiting:
            module = waiting.pop()
            if module not in reached:
                reached.add(module)
                waiting.extend(imports.get(module, ()))
        if home in reached:
            findings.append(f"L16 {home} imports itself through other files")
    return findings


def check_attributes(sources):
    """L18: what is read is assigned somewhere, and no name is a method and an attribute of one class. L26."""
    findings = []
    stored, methods, modules = {}, set(), set()
    for source in sources:
        modules.update(source.imported())
        methods.update(node.name for node in methods_in(source))
        for node in source.nodes(ast.Attribute):
            if isinstance(node.ctx, ast.Store):
                stored.setdefault(node.attr, source.found("L26", node, f"the attribute {node.attr}"))
    for name in sorted(stored):
        if name in VALUE_METHODS - set("count index title find get join lower upper split strip copy add".split()):
            findings.append(stored[name])
    for source in sources:
        for node in source.nodes(ast.Attribute):
            if isinstance(node.ctx, ast.Load) and node.attr not in stored.keys() | methods | VALUE_METHODS | {"setter"}:
                findings.append(source.found("L18", node, f"nothing assigns the attribute {node.attr}"))
        for node in source.nodes(ast.ClassDef):
            own = {row.name for row in node.body if isinstance(row, FUNCTIONS) and not row.decorator_list}
            for part in ast.walk(node):
                if isinstance(part, ast.Attribute) and isinstance(part.ctx, ast.Store) and part.attr in own:
                    findings.append(source.found("L18", part, f"{part.attr} is a method and an attribute"))
    return findings


def check_generators(sources):
    """L23: a generator's call is iterated at once, and its name is that of nothing else."""
    findings = []
    generators = {
        node.name
        for source in sources
        for node in source.nodes(*FUNCTIONS)
        if any(isinstance(row, (ast.Yield, ast.YieldFrom)) for row in ast.walk(node))
    }
    names = [node.name for source in sources for node in source.nodes(*FUNCTIONS)]
    for name in sorted(generators):
        if names.count(name) > 1 or name in ALLOWED_METHODS:
            findings.append(f"L23 {name} is a generator and something else")
    for source in sources:
        for node in source.nodes(ast.Name, ast.Attribute):
            name = node.id if isinstance(node, ast.Name) else node.attr
            above = source.parents[node]
            called = isinstance(above, ast.Call) and above.func is node
            if name in generators and not (called and is_iterated(source, above)):
                findings.append(source.found("L23", node, f"the generator {name} is not iterated at once"))
    return findings


def check_private_used(sources):
    """Functions and values of a file that nothing reads, and that do not belong to the interface."""
    findings = []
    for source in sources:
        read = {node.id for node in source.nodes(ast.Name) if isinstance(node.ctx, ast.Load)}
        for name in source.defined():
            if name.startswith("_") and name not in read:
                findings.append(source.found("unused", 1, f"nothing uses {name}"))
    return findings


def check_tables(sources):
    """L15: a list or dict at module level is only read, and not passed on."""
    findings = []
    tables = {
        node.targets[0].id
        for source in sources
        for node in source.tree.body
        if isinstance(node, ast.Assign) and isinstance(node.value, (ast.List, ast.Dict))
    }
    for source in sources:
        for node in source.nodes(ast.Name):
            if node.id in tables and isinstance(node.ctx, ast.Load) and not is_only_read(source, node):
                findings.append(source.found("L15", node, f"{node.id} is not only read"))
    return findings


def is_only_read(source, node):
    above = source.parents[node]
    if isinstance(above, ast.Subscript):
        return above.value is node and isinstance(above.ctx, ast.Load)
    if isinstance(above, ast.Attribute):
        return above.attr in ("get", "items", "keys", "values", "index", "count")
    if isinstance(above, (ast.For, ast.comprehension)):
        return above.iter is node
    return isinstance(above, ast.Compare) or called_name(above) in ("len", "list", "dict", "tuple", "sorted")


FILE_CHECKS = (
    check_text, check_words, check_names, check_shadows, check_builtins, check_module_level, check_imports,
    check_functions, check_statements, check_errors, check_calls, check_lazy, check_sets, check_special_methods,
    check_finally, check_defaults, check_unused,
)
PACKAGE_CHECKS = (
    check_import_targets, check_attributes, check_generators, check_private_used, check_tables, check_decorated,
    check_pure, check_passed,
)
