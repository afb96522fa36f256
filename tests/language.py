"""Looks at a file of the package by the rules L1 to L28, as far as a plain look can see them."""

import ast
import builtins
import re

OWN_NAMES = set(
    "len range enumerate zip min max sum abs sorted reversed int str bool list tuple dict set frozenset isinstance "
    "ord repr any all divmod Exception ValueError TypeError KeyError IndexError LookupError ZeroDivisionError "
    "ArithmeticError OverflowError RuntimeError NotImplementedError AttributeError StopIteration".split())
METHODS = set(
    "append clear copy count endswith extend find get index insert isalnum isalpha isdigit islower isspace isupper "
    "items join keys ljust lower lstrip partition pop remove replace reverse rfind rjust rpartition rsplit rstrip "
    "setdefault split splitlines startswith strip update upper values zfill bit_length".split())
NODES = set(
    "Module Expr Constant ImportFrom alias FunctionDef ClassDef arguments arg Assign AugAssign If While For Return "
    "Break Continue Pass Raise Try ExceptHandler Call Name Load Store Attribute Subscript Slice List Tuple Dict "
    "ListComp comprehension BinOp UnaryOp BoolOp Compare IfExp JoinedStr FormattedValue Lambda keyword "
    "Add Sub Mult FloorDiv Mod Pow BitOr BitAnd BitXor LShift RShift USub Not Invert And Or "
    "Eq NotEq Lt LtE Gt GtE Is IsNot In NotIn".split())
TOP = (ast.ImportFrom, ast.FunctionDef, ast.ClassDef, ast.Assign)
WALKED_AT_ONCE = ("zip", "enumerate", "reversed", "range")
WALKERS = ("list", "tuple", "dict", "sorted", "sum", "any", "all", "enumerate", "zip", "min", "max")
WORDS_NOT_USED = re.compile(
    r"\b(type|typing|typing_extensions|enum|Enum|IntEnum|StrEnum|Flag|IntFlag|Generic|Protocol|ABC|ABCMeta|namedtuple|"
    r"NamedTuple|TypedDict|TYPE_CHECKING|abstractmethod)\b|dataclass|overload|contextmanager")
NAMES_NOT_USED = set(
    "register mro elements open input version_info with_traceback add_note attrgetter breakpoint builtins compile "
    "copyright credits delattr dir eval exec exit gc getattr globals hasattr help id importlib license locals "
    "methodcaller os quit setattr super type vars sys".split())
TWO_UNDERSCORES = ("__init__", "__eq__", "__repr__", "__str__", "__len__")


def methods_of(source):
    """The names of the methods of the file's own classes."""
    return [part.name for node in ast.parse(source).body if isinstance(node, ast.ClassDef) for part in node.body
            if isinstance(part, ast.FunctionDef)]


def faults(source, methods=()):
    """Tuples (rule, line) of what is found outside the rules; methods are those of the package's other files."""
    tree = ast.parse(source)
    found = signs_and_sizes(source, tree)
    for child in tree.body[1:]:
        if not isinstance(child, TOP):
            found.append(("L3", child.lineno))
    parents = {child: node for node in ast.walk(tree) for child in ast.iter_child_nodes(node)}
    imported = [name.name for node in tree.body if isinstance(node, ast.ImportFrom) for name in node.names]
    own = methods_of(source) + list(methods)
    for node in ast.walk(tree):
        line = getattr(node, "lineno", 0)
        rules = plain_faults(node) + name_faults(node, imported) + call_faults(node, parents, own)
        found.extend((rule, line) for rule in rules)
    found.extend(("L15", line) for line in kept_faults(tree, parents))
    return sorted(found)


def kept_faults(tree, parents):
    """Lines at which a list or dict of the file's top isn't only read, or is bound twice."""
    kept = [node.targets[0].id for node in tree.body
            if isinstance(node, ast.Assign) and isinstance(node.value, (ast.Dict, ast.List))]
    lines = [node.lineno for node in ast.walk(tree)
             if isinstance(node, ast.Name) and node.id in kept and not is_only_read(node, parents)]
    return lines + [1 for name in kept if kept.count(name) > 1]


def is_only_read(node, parents):
    above = parents[node]
    if isinstance(above, ast.Assign):
        return parents[above] not in parents
    if isinstance(above, ast.Subscript):
        return isinstance(above.ctx, ast.Load) and above.value is node
    if isinstance(above, ast.Attribute):
        return above.attr in ("get", "items", "keys", "values", "index", "count")
    if isinstance(above, ast.Call):
        return isinstance(above.func, ast.Name) and above.func.id in ("len", "list", "dict", "tuple", "sorted")
    return isinstance(above, (ast.Compare, ast.For, ast.comprehension))


def signs_and_sizes(source, tree):
    found = []
    rows = source.split("\n")
    if len(rows) > 401:
        found.append(("L10", 400))
    for number, row in enumerate(rows, start=1):
        if len(row) > 120 or "\t" in row:
            found.append(("L10", number))
        if not all(" " <= sign <= "~" for sign in row):
            found.append(("L14", number))
        if WORDS_NOT_USED.search(row):
            found.append(("L17", number))
    for node in ast.walk(tree):
        if isinstance(node, ast.FunctionDef) and node.end_lineno - node.lineno + 1 > 40:
            found.append(("L10", node.lineno))
    return found


def plain_faults(node):
    rules = []
    if type(node).__name__ not in NODES:
        rules.append("L6, L7")
    if isinstance(node, (ast.FunctionDef, ast.ClassDef)) and node.decorator_list:
        rules.append("L4, L5")
    if isinstance(node, ast.arguments) and (node.vararg or node.kwarg or node.kwonlyargs or node.posonlyargs):
        rules.append("L4")
    if isinstance(node, ast.Assign) and (len(node.targets) > 1 or isinstance(node.targets[0], ast.Tuple)):
        rules.append("L6")
    if isinstance(node, (ast.For, ast.While)) and node.orelse:
        rules.append("L6")
    if isinstance(node, ast.ListComp) and (len(node.generators) > 1 or len(node.generators[0].ifs) > 1):
        rules.append("L7")
    if isinstance(node, ast.FormattedValue) and (not isinstance(node.value, ast.Name) or node.format_spec):
        rules.append("L7")
    if isinstance(node, ast.ClassDef) and not all(isinstance(part, (ast.FunctionDef, ast.Pass)) for part in node.body):
        rules.append("L5")
    if isinstance(node, ast.Expr) and not isinstance(node.value, ast.Call) and node.lineno > 1:
        rules.append("L6")
    if isinstance(node, ast.Constant):
        rules.extend(constant_faults(node.value))
    if isinstance(node, ast.BinOp) and isinstance(node.op, ast.Pow) and not isinstance(node.right, ast.Constant):
        rules.append("L27")
    if isinstance(node, ast.Compare):
        for op, right in zip(node.ops, node.comparators):
            if isinstance(op, (ast.Is, ast.IsNot)) and not (
                    isinstance(right, ast.Constant) and right.value in (None, True, False)):
                rules.append("L20")
    return rules


def constant_faults(value):
    if isinstance(value, (float, complex, bytes)) or value is ...:
        return ["L7"]
    if isinstance(value, str) and "%" in value:
        return ["L27"]
    return []


def name_faults(node, imported):
    rules = []
    if isinstance(node, ast.ImportFrom):
        if node.level or not node.module.startswith("calmword.") or any(
                name.name == "*" or name.asname for name in node.names):
            rules.append("L2")
    bound = bound_name(node)
    if bound is not None and bound not in TWO_UNDERSCORES:
        if bound.startswith("_"):
            rules.append("L12")
        if hasattr(builtins, bound) or bound in imported:
            rules.append("L15")
        if bound in NAMES_NOT_USED:
            rules.append("L17")
    if isinstance(node, ast.Name) and isinstance(node.ctx, ast.Load):
        if hasattr(builtins, node.id) and node.id not in OWN_NAMES:
            rules.append("L8")
    return rules


def bound_name(node):
    if isinstance(node, ast.Name) and isinstance(node.ctx, ast.Store):
        return node.id
    if isinstance(node, ast.arg):
        return node.arg
    if isinstance(node, (ast.FunctionDef, ast.ClassDef)):
        return node.name
    return None


def call_faults(node, parents, own):
    if not isinstance(node, ast.Call):
        return []
    rules = []
    called = node.func
    if isinstance(called, ast.Attribute) and called.attr not in METHODS and called.attr not in own:
        if not (called.attr == "__init__" and isinstance(called.value, ast.Name)):
            rules.append("L25")
    if isinstance(called, ast.Name) and called.id in WALKED_AT_ONCE and not is_walked(node, parents[node]):
        rules.append("L23")
    if isinstance(called, ast.Attribute) and called.attr in ("items", "keys", "values"):
        if not is_walked(node, parents[node]):
            rules.append("L23")
    if isinstance(called, ast.Name) and called.id in ("set", "frozenset"):
        above = parents[node]
        within = isinstance(above, ast.Call) and isinstance(above.func, ast.Name) and above.func.id in ("sorted", "len")
        if not within and not isinstance(above, (ast.Compare, ast.BinOp)):
            rules.append("L24")
    return rules


def is_walked(node, above):
    if isinstance(above, (ast.For, ast.comprehension)):
        return above.iter is node
    return isinstance(above, ast.Call) and isinstance(above.func, ast.Name) and above.func.id in WALKERS
