"""Looks a file of the package through for what LANGUAGE.md rules out, as far as the form of the code shows it."""

import ast
import builtins
import re

OWN_NAMES = set(
    "len range enumerate zip min max sum abs sorted reversed int str bool list tuple dict set frozenset isinstance"
    " ord repr any all divmod Exception ValueError TypeError KeyError IndexError LookupError ZeroDivisionError"
    " ArithmeticError OverflowError RuntimeError NotImplementedError AttributeError StopIteration".split())
DUNDER_METHODS = set("__init__ __eq__ __repr__ __str__ __len__".split())
METHODS = set(
    "append clear copy count endswith extend find get index insert isalnum isalpha isdigit islower isspace isupper"
    " items join keys ljust lower lstrip partition pop remove replace reverse rfind rjust rpartition rsplit rstrip"
    " setdefault split splitlines startswith strip update upper values zfill bit_length".split())
PYTHON_METHODS = {
    name for kind in (str, int, list, dict, set, bytes, tuple) for name in dir(kind) if not name.startswith("__")}
WORDS = re.compile(
    r"\b(type|typing|typing_extensions|enum|Enum|IntEnum|StrEnum|Flag|IntFlag|Generic|Protocol|ABC|ABCMeta|namedtuple"
    r"|NamedTuple|TypedDict|TYPE_CHECKING|abstractmethod)\b|dataclass|overload|contextmanager")
UNUSED = set(
    "register mro elements open input version_info with_traceback add_note format format_map attrgetter breakpoint"
    " builtins compile copyright credits delattr dir eval exec exit gc getattr globals hasattr help id importlib"
    " license locals methodcaller os quit setattr super type vars sys".split())
NODES = (
    ast.Module, ast.FunctionDef, ast.ClassDef, ast.arguments, ast.arg, ast.ImportFrom, ast.alias, ast.Assign,
    ast.AugAssign, ast.If, ast.While, ast.For, ast.Return, ast.Break, ast.Continue, ast.Pass, ast.Raise, ast.Try,
    ast.ExceptHandler, ast.Expr, ast.Lambda, ast.Name, ast.Attribute, ast.Subscript, ast.Slice, ast.Call, ast.keyword,
    ast.Constant, ast.List, ast.Tuple, ast.Dict, ast.Set, ast.BinOp, ast.UnaryOp, ast.BoolOp, ast.Compare, ast.IfExp,
    ast.ListComp, ast.comprehension, ast.JoinedStr, ast.FormattedValue, ast.operator, ast.unaryop, ast.boolop,
    ast.cmpop, ast.expr_context)
LOOPS = (ast.For, ast.While)
WALKED = set("zip enumerate reversed range items keys values".split())
WALKERS = set("list tuple dict sorted sum any all enumerate zip".split())
READERS = set("get items keys values index count copy".split())
OWN_VALUES = set("count index title find get join lower upper split strip copy add".split())
KEYWORDS = {"sorted": {"key", "reverse"}, "min": {"key", "default"}, "max": {"key", "default"}, "sum": {"start"},
            "enumerate": {"start"}, "zip": {"strict"}}


def faults_of(source):
    tree = ast.parse(source)
    return text_faults(source) + top_faults(tree) + node_faults(tree) + table_faults(tree) + class_faults(tree)


def text_faults(source):
    faults = []
    for number, line in enumerate(source.split("\n"), start=1):
        if len(line) > 120:
            faults.append(f"L10 a long line {number}")
        if any(not " " <= sign <= "~" for sign in line):
            faults.append(f"L14 a sign in line {number}")
        if WORDS.search(line):
            faults.append(f"L17 a word in line {number}")
    if source.count("\n") > 400:
        faults.append("L10 a long file")
    return faults


def top_faults(tree):
    faults = []
    bound = {}
    for place, node in enumerate(tree.body):
        names = names_bound(node)
        if names is None and not (place == 0 and is_docstring(node)):
            faults.append(f"L3 line {node.lineno}")
        for name in names or ():
            if name in bound:
                faults.append(f"L15 {name} is bound again")
            bound[name] = True
    return faults


def names_bound(node):
    if isinstance(node, (ast.FunctionDef, ast.ClassDef)):
        return [node.name]
    if isinstance(node, ast.ImportFrom):
        return [alias.asname or alias.name for alias in node.names]
    if isinstance(node, ast.Assign) and is_plain(node.value):
        return [target.id for target in node.targets]
    return None


def is_plain(node):
    if isinstance(node, (ast.List, ast.Tuple)):
        return all(is_plain(inner) for inner in node.elts)
    if isinstance(node, ast.Dict):
        return all(is_plain(inner) for inner in node.keys + node.values)
    if isinstance(node, ast.UnaryOp):
        return isinstance(node.op, ast.USub) and is_plain(node.operand)
    return isinstance(node, (ast.Constant, ast.Name))


def is_docstring(node):
    return isinstance(node, ast.Expr) and isinstance(node.value, ast.Constant) and isinstance(node.value.value, str)


def node_faults(tree):
    imported = {name for node in tree.body if isinstance(node, ast.ImportFrom) for name in names_bound(node)}
    defined = {node.name for node in tree.body if isinstance(node, (ast.FunctionDef, ast.ClassDef))}
    faults = []
    for node in ast.walk(tree):
        for inner in ast.iter_child_nodes(node):
            inner.around = node
    for node in ast.walk(tree):
        for rule in rules_broken(node, imported | defined):
            faults.append(f"{rule} line {getattr(node, 'lineno', 0)}")
    return faults


def table_faults(tree):
    """Lists and dicts of a file's top hold none themselves, and are only read."""
    tables = {}
    for node in tree.body:
        if isinstance(node, ast.Assign) and isinstance(node.value, (ast.List, ast.Dict)):
            tables[node.targets[0].id] = node.value
    faults = []
    for name, table in tables.items():
        if any(isinstance(inner, (ast.List, ast.Dict)) for inner in ast.walk(table) if inner is not table):
            faults.append(f"L15 {name} holds a list or dict")
    for node in ast.walk(tree):
        if isinstance(node, ast.Name) and node.id in tables and isinstance(node.ctx, ast.Load) and not is_read(node):
            faults.append(f"L15 line {node.lineno}")
    return faults


def is_read(node):
    around = node.around
    if isinstance(around, ast.Subscript):
        return isinstance(around.ctx, ast.Load) and around.value is node
    if isinstance(around, ast.Attribute):
        return around.attr in READERS and called(around)
    if isinstance(around, ast.Call):
        return name_of(around) in WALKERS | {"len", "min", "max", "reversed"}
    return isinstance(around, ast.Compare) or isinstance(around, (ast.For, ast.comprehension)) and around.iter is node


def class_faults(tree):
    """Classes are called, are bases, or stand by isinstance, except and raise; nowhere else."""
    names = {node.name for node in tree.body if isinstance(node, ast.ClassDef)}
    for node in tree.body:
        if isinstance(node, ast.ImportFrom):
            names |= {name.name for name in node.names if name.name[:1].isupper() and not name.name.isupper()}
    faults = []
    for node in ast.walk(tree):
        if isinstance(node, ast.Name) and node.id in names and not stands_as_class(node):
            faults.append(f"L18 line {node.lineno}")
    return faults


def stands_as_class(node):
    around = node.around.around if isinstance(node.around, ast.Tuple) else node.around
    if isinstance(around, ast.Attribute):
        return around.attr == "__init__"
    return called(node) or kind_asked(node) or isinstance(around, (ast.ClassDef, ast.ExceptHandler, ast.Raise))


def rules_broken(node, own):
    if not isinstance(node, NODES):
        yield "L6 L7"
    for look in (import_rules, function_rules, class_rules, statement_rules, value_rules, name_rules, call_rules,
                 own_call_rules, walk_rules, own_name_rules, annotation_rules):
        yield from look(node, own)


def import_rules(node, own):
    if isinstance(node, ast.ImportFrom):
        if node.level or not node.module.startswith("gaugewright.") or any(name.name == "*" for name in node.names):
            yield "L2"


def function_rules(node, own):
    if isinstance(node, (ast.FunctionDef, ast.Lambda)):
        handed = node.args
        if handed.vararg or handed.kwarg or handed.kwonlyargs or handed.posonlyargs:
            yield "L4"
    if isinstance(node, ast.FunctionDef):
        if node.decorator_list:
            yield "L4"
        if node.end_lineno - node.lineno + 1 > 40:
            yield "L10"
    if isinstance(node, ast.arg) and (node.arg in own or node.arg in dir(builtins)):
        yield "L15"


def class_rules(node, own):
    if isinstance(node, ast.ClassDef):
        if node.decorator_list or node.keywords or len(node.bases) > 1:
            yield "L5"
        if any(not isinstance(inner, (ast.FunctionDef, ast.Pass)) for inner in node.body):
            yield "L5"


def statement_rules(node, own):
    if isinstance(node, ast.Assign) and len(node.targets) != 1:
        yield "L6"
    if isinstance(node, LOOPS) and node.orelse:
        yield "L6"
    if isinstance(node, ast.Try) and node.finalbody:
        yield "L6"
    if isinstance(node, ast.Expr) and not isinstance(node.value, ast.Call) and not is_docstring(node):
        yield "L6"
    if isinstance(node, ast.ExceptHandler):
        if node.type is None or "Exception" in ast.dump(node.type) or "TypeError" in ast.dump(node.type):
            yield "L19"


def value_rules(node, own):
    if isinstance(node, ast.Constant):
        if isinstance(node.value, (float, complex, bytes)) or node.value is ...:
            yield "L7"
        if isinstance(node.value, str) and "%" in node.value:
            yield "L27"
    if isinstance(node, ast.BinOp) and isinstance(node.op, (ast.Div, ast.MatMult)):
        yield "L7"
    if isinstance(node, ast.BinOp) and isinstance(node.op, ast.Pow):
        if not isinstance(node.right, ast.Constant) or not 0 <= node.right.value <= 64:
            yield "L27"
    if isinstance(node, ast.ListComp) and (len(node.generators) > 1 or len(node.generators[0].ifs) > 1):
        yield "L7"
    if isinstance(node, ast.Compare):
        for kind, right in zip(node.ops, node.comparators):
            if isinstance(kind, (ast.Is, ast.IsNot)):
                if not isinstance(right, ast.Constant) or right.value not in (None, True, False):
                    yield "L20"


def name_rules(node, own):
    if isinstance(node, ast.Name):
        if node.id.startswith("_"):
            yield "L12"
        if node.id in UNUSED:
            yield "L17"
        if isinstance(node.ctx, ast.Store) and (node.id in own or node.id in dir(builtins)):
            yield "L15"
        if isinstance(node.ctx, ast.Load) and node.id in dir(builtins) and node.id not in OWN_NAMES:
            yield "L8"
    if isinstance(node, ast.Attribute):
        if node.attr in UNUSED:
            yield "L17"
        if node.attr.startswith("_") and node.attr != "__init__":
            yield "L12"
    if isinstance(node, (ast.FunctionDef, ast.ClassDef)):
        if node.name.startswith("_") and node.name not in DUNDER_METHODS:
            yield "L12"
        if node.name in dir(builtins) or node.name in UNUSED:
            yield "L15"


def call_rules(node, own):
    if isinstance(node, ast.Call) and isinstance(node.func, ast.Attribute):
        if node.func.attr in PYTHON_METHODS - METHODS - {"add", "discard"}:
            yield "L25"
    if isinstance(node, ast.Call) and any(isinstance(handed, ast.Starred) for handed in node.args):
        yield "L7"
    if isinstance(node, ast.keyword) and node.arg is None:
        yield "L7"


def own_call_rules(node, own):
    if isinstance(node, ast.Call) and isinstance(node.func, ast.Name) and node.func.id in OWN_NAMES:
        if any(handed.arg not in KEYWORDS.get(node.func.id, ()) for handed in node.keywords):
            yield "L22"
    if isinstance(node, ast.Name) and isinstance(node.ctx, ast.Load) and node.id in OWN_NAMES:
        if not (called(node) or kind_asked(node) or node.id.endswith(("Error", "Exception"))
                or isinstance(node.around, ast.keyword) and node.around.arg == "key"):
            yield "L22"


def called(node):
    return isinstance(node.around, ast.Call) and node.around.func is node


def kind_asked(node):
    around = node.around.around if isinstance(node.around, ast.Tuple) else node.around
    return isinstance(around, ast.Call) and name_of(around) == "isinstance"


def name_of(call):
    return getattr(call.func, "attr", getattr(call.func, "id", None))


def own_name_rules(node, own):
    if isinstance(node, ast.ClassDef):
        for method in [inner.name for inner in node.body if isinstance(inner, ast.FunctionDef)]:
            if method in PYTHON_METHODS - METHODS - {"add", "discard"}:
                yield "L26"
    if isinstance(node, ast.Attribute) and isinstance(node.ctx, ast.Store):
        if node.attr in (PYTHON_METHODS | {"args", "encode", "format"}) - OWN_VALUES:
            yield "L26"


def annotation_rules(node, own):
    if isinstance(node, ast.arg) and node.annotation is not None:
        yield "L21"
    if isinstance(node, ast.FunctionDef) and node.returns is not None:
        yield "L21"


def walk_rules(node, own):
    if isinstance(node, ast.Call) and name_of(node) in WALKED and name_of(node) not in own and not walked(node):
        yield "L23"
    if isinstance(node, ast.Set) or isinstance(node, ast.Call) and name_of(node) in ("set", "frozenset"):
        if not isinstance(node.around, (ast.Compare, ast.BinOp)):
            if not isinstance(node.around, ast.Call) or name_of(node.around) not in ("sorted", "len"):
                yield "L24"
    if isinstance(node, ast.Set) and len(node.elts) > 2 and not isinstance(node.around, ast.Compare):
        yield "L13"


def walked(node):
    around = node.around
    if isinstance(around, (ast.For, ast.comprehension)):
        return around.iter is node
    if not isinstance(around, ast.Call) or not around.args or around.args[0] is not node:
        return False
    return name_of(around) in WALKERS or name_of(around) in ("min", "max") and len(around.args) == 1


def drawn_from(source):
    tree = ast.parse(source)
    return {node.module.split(".")[1]: [name.name for name in node.names]
            for node in tree.body if isinstance(node, ast.ImportFrom)}


def defined_in(source):
    tree = ast.parse(source)
    names = []
    for node in tree.body:
        if not isinstance(node, ast.ImportFrom):
            names.extend(names_bound(node) or ())
    return names
