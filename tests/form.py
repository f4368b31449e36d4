"""Looks the package's files through for what LANGUAGE.md rules out, as far as a plain look can see it.

faults(name, source) tells of one file; package_faults(sources) of all files together.
"""

import ast
import builtins
import io
import re
import tokenize

STATEMENTS = (
    ast.Assign, ast.AugAssign, ast.If, ast.While, ast.For, ast.Return, ast.Break, ast.Continue, ast.Pass, ast.Raise,
    ast.Try, ast.Expr, ast.FunctionDef, ast.ClassDef, ast.ImportFrom,
)
EXPRESSIONS = (
    ast.Constant, ast.Name, ast.List, ast.Tuple, ast.Dict, ast.Set, ast.BinOp, ast.UnaryOp, ast.Compare, ast.BoolOp,
    ast.IfExp, ast.Call, ast.Attribute, ast.Subscript, ast.Slice, ast.ListComp, ast.JoinedStr, ast.FormattedValue,
    ast.Lambda,
)
OWN_NAMES = set(
    "len range enumerate zip min max sum abs sorted reversed int str bool list tuple dict set frozenset isinstance ord "
    "repr any all divmod Exception ValueError TypeError KeyError IndexError LookupError ZeroDivisionError "
    "ArithmeticError OverflowError RuntimeError NotImplementedError AttributeError StopIteration".split()
)
METHODS = set(
    "append clear copy count endswith extend find get index insert isalnum isalpha isdigit islower isspace isupper "
    "items join keys ljust lower lstrip partition pop remove replace reverse rfind rjust rpartition rsplit rstrip "
    "setdefault split splitlines startswith strip update upper values zfill bit_length".split()
)
UNDERSCORED = {"__init__", "__eq__", "__repr__", "__str__", "__len__"}
UNUSED = set(
    "register mro elements open input version_info with_traceback add_note attrgetter breakpoint builtins compile "
    "copyright credits delattr dir eval exec exit gc getattr globals hasattr help id importlib license locals "
    "methodcaller os quit setattr super type vars sys format format_map".split()
)
WORDS = set(
    "type typing typing_extensions enum Enum IntEnum StrEnum Flag IntFlag Generic Protocol ABC ABCMeta namedtuple "
    "NamedTuple TypedDict TYPE_CHECKING abstractmethod".split()
)
NO_FILES = {"test", "tests", "testing", "site", "conftest", "sitecustomize", "usercustomize"}
NO_FILES = NO_FILES | WORDS | set(dir(builtins))
WALKED = {"zip", "enumerate", "reversed", "range", "items", "keys", "values"}
WALKERS = {"list", "tuple", "dict", "sorted", "sum", "any", "all", "enumerate", "zip"}
CHANGES = {"append", "clear", "extend", "insert", "pop", "remove", "reverse", "setdefault", "update"}
KEYWORDS = {
    "sorted": {"key", "reverse"}, "min": {"key", "default"}, "max": {"key", "default"}, "sum": {"start"},
    "enumerate": {"start"}, "zip": {"strict"},
}


def sign_faults(source):
    told = []
    for at, line in enumerate(source.split("\n"), start=1):
        if len(line) > 120:
            told.append((at, "L10 a line of more than 120 characters"))
        if re.search(r"[^ -~]", line):
            told.append((at, "L14 a sign that is not from the blank to ~"))
        if WORDS & set(re.findall(r"\w+", line)) or re.search("dataclass|overload|contextmanager", line):
            told.append((at, "L17 a word that stands nowhere"))
    if source.count("\n") > 400:
        told.append((401, "L10 a file of more than 400 lines"))
    return told


def text_faults(source):
    told = []
    for token in tokenize.generate_tokens(io.StringIO(source).readline):
        if tokenize.tok_name[token.type] in ("STRING", "FSTRING_MIDDLE"):
            if "%" in token.string:
                told.append((token.start[0], "L27 the sign for hundredths within a text"))
            if re.sub(r"\\[nt\\'\"]", "", token.string).count("\\"):
                told.append((token.start[0], "L27 another escape"))
    return told


def is_plain(node, defs):
    if isinstance(node, ast.Constant):
        return node.value is None or isinstance(node.value, (int, str))
    if isinstance(node, ast.UnaryOp) and isinstance(node.op, ast.USub):
        return is_plain(node.operand, defs)
    if isinstance(node, (ast.List, ast.Tuple)):
        return all(is_plain(thing, defs) for thing in node.elts)
    if isinstance(node, ast.Dict):
        return all(thing is not None and is_plain(thing, defs) for thing in node.keys + node.values)
    return isinstance(node, ast.Name) and node.id in defs


def top_names(tree):
    names = []
    for node in tree.body:
        if isinstance(node, (ast.FunctionDef, ast.ClassDef)):
            names.append(node.name)
        elif isinstance(node, ast.Assign):
            names.extend(getattr(target, "id", "?") for target in node.targets)
        elif isinstance(node, ast.ImportFrom):
            names.extend(alias.asname or alias.name for alias in node.names)
    return names


def top_faults(tree):
    told = []
    defs = set()
    for at, node in enumerate(tree.body):
        if isinstance(node, ast.Expr):
            if at or not isinstance(node.value, ast.Constant) or not isinstance(node.value.value, str):
                told.append((node.lineno, "L3 something is done at the top"))
        elif isinstance(node, ast.Assign):
            if not isinstance(node.targets[0], ast.Name) or not is_plain(node.value, defs):
                told.append((node.lineno, "L3 no plain value at the top"))
        elif isinstance(node, ast.FunctionDef):
            defs.add(node.name)
        elif not isinstance(node, (ast.ClassDef, ast.ImportFrom)):
            told.append((node.lineno, "L3 something else at the top"))
    names = top_names(tree)
    return told + [(1, f"L15 {name} is bound twice") for name in sorted(set(names)) if names.count(name) > 1]


def statement_faults(node, outer):
    if not isinstance(node, STATEMENTS):
        return ["L6 a statement that is out"]
    told = []
    if isinstance(node, ast.Assign) and len(node.targets) != 1:
        told.append("L6 more than one target")
    if isinstance(node, (ast.For, ast.While)) and node.orelse:
        told.append("L6 else behind a loop")
    if isinstance(node, ast.Try) and (node.finalbody or any(handler.type is None for handler in node.handlers)):
        told.append("L6 finally, or except of no named class")
    if isinstance(node, ast.Expr) and not isinstance(node.value, ast.Call) and not isinstance(outer, ast.Module):
        told.append("L6 a statement that is no call")
    if isinstance(node, ast.ImportFrom):
        if not isinstance(outer, ast.Module) or node.level or not (node.module or "").startswith("crosshall."):
            told.append("L2 an import that is out")
        if any(alias.name == "*" for alias in node.names):
            told.append("L2 an import of all")
    return told


def def_faults(node, outer):
    told = []
    if isinstance(node, ast.ClassDef):
        if node.decorator_list or node.keywords or len(node.bases) > 1 or not isinstance(outer, ast.Module):
            told.append("L5 no plain class")
        if not all(isinstance(thing, (ast.FunctionDef, ast.Pass)) for thing in node.body):
            told.append("L5 a value in a class")
        methods = [thing.name for thing in node.body if isinstance(thing, ast.FunctionDef)]
        if len(methods) != len(set(methods)):
            told.append("L18 a method stands twice")
    if isinstance(node, ast.FunctionDef):
        if node.decorator_list or node.returns:
            told.append("L4 a decorator, L21 an annotation")
        if node.end_lineno - node.lineno >= 40:
            told.append("L10 a function of more than 40 lines")
    if isinstance(node, ast.arguments):
        if node.vararg or node.kwarg or node.kwonlyargs or node.posonlyargs:
            told.append("L4 no plain parameters")
        if any(thing.annotation for thing in node.args):
            told.append("L21 an annotation")
    return told


def is_truth_or_none(node):
    return isinstance(node, ast.Constant) and (node.value is None or isinstance(node.value, bool))


def expression_faults(node):
    if not isinstance(node, EXPRESSIONS):
        return ["L7 an expression that is out"]
    told = []
    if isinstance(node, ast.Constant) and not (node.value is None or isinstance(node.value, (int, str))):
        told.append("L7 a float or bytes")
    if isinstance(node, ast.BinOp) and isinstance(node.op, (ast.Div, ast.MatMult)):
        told.append("L7 a division that is out")
    if isinstance(node, ast.BinOp) and isinstance(node.op, ast.Pow):
        if not isinstance(node.right, ast.Constant) or not 0 <= node.right.value <= 64:
            told.append("L27 an exponent that is not written")
    if isinstance(node, ast.ListComp) and (len(node.generators) > 1 or len(node.generators[0].ifs) > 1):
        told.append("L7 a comprehension with more than one for or if")
    if isinstance(node, ast.FormattedValue):
        if not isinstance(node.value, ast.Name) or node.format_spec or node.conversion not in (-1, ord("r")):
            told.append("L7 no plain name in an f-string")
    if isinstance(node, ast.Compare) and any(isinstance(op, (ast.Is, ast.IsNot)) for op in node.ops):
        if not any(is_truth_or_none(thing) for thing in [node.left] + node.comparators):
            told.append("L20 is beside another thing")
    return told


def name_faults(node, names):
    told = []
    bound = []
    if isinstance(node, ast.Name):
        if isinstance(node.ctx, ast.Store):
            bound.append(node.id)
        elif node.id in dir(builtins) and node.id not in OWN_NAMES and node.id not in names:
            told.append(f"L8 {node.id}")
    if isinstance(node, ast.arg):
        bound.append(node.arg)
    if isinstance(node, ast.ExceptHandler) and node.name:
        bound.append(node.name)
    if any(name in dir(builtins) for name in bound):
        told.append("L15 a name of Python's own is bound")
    used = bound + [getattr(node, key) for key in ("id", "attr", "name") if isinstance(getattr(node, key, None), str)]
    for name in used:
        if name in UNUSED:
            told.append(f"L17 {name}")
        if not re.fullmatch("[A-Za-z][A-Za-z0-9_]*", name) and name not in UNDERSCORED:
            told.append(f"L12 {name}")
    return told


def called(node):
    """The name of what a call calls, or None."""
    if isinstance(node, ast.Call):
        return getattr(node.func, "id", None) or getattr(node.func, "attr", None)
    return None


def is_walked(node, outer):
    if isinstance(outer, (ast.For, ast.comprehension)):
        return outer.iter is node
    if called(outer) in WALKERS:
        return outer.args[0] is node
    if called(outer) == "join":
        return isinstance(outer.func.value, ast.Constant)
    return called(outer) in ("min", "max") and len(outer.args) == 1


def is_set(node):
    if isinstance(node, ast.BinOp) and isinstance(node.op, (ast.Sub, ast.BitAnd, ast.BitOr, ast.BitXor)):
        return is_set(node.left) or is_set(node.right)
    return isinstance(node, ast.Set) or called(node) in ("set", "frozenset")


def set_is_asked(outer):
    if isinstance(outer, ast.Compare):
        return all(isinstance(op, (ast.In, ast.NotIn, ast.Eq, ast.NotEq)) for op in outer.ops)
    return is_set(outer) or called(outer) in ("sorted", "len") and not outer.keywords


def changed_in(loop):
    """What stands in the loop's body as changed, written out."""
    for node in ast.walk(ast.Module(body=loop.body, type_ignores=[])):
        if called(node) in CHANGES and isinstance(node.func, ast.Attribute):
            yield ast.unparse(node.func.value)
        if isinstance(node, ast.Subscript) and isinstance(node.ctx, ast.Store):
            yield ast.unparse(node.value)
        if isinstance(node, ast.AugAssign):
            yield ast.unparse(node.target)


def loop_walks(node):
    if called(node) in ("enumerate", "zip", "reversed"):
        return [thing for inner in node.args for thing in loop_walks(inner)]
    if called(node) in ("items", "keys", "values"):
        return [ast.unparse(node.func.value)]
    return [ast.unparse(node)]


def use_faults(node, outer):
    told = []
    if called(node) in WALKED and not is_walked(node, outer):
        told.append(f"L23 {called(node)} is not walked on the spot")
    if is_set(node) and not set_is_asked(outer):
        told.append("L24 a set that is kept or walked")
    if isinstance(node, ast.For) and set(loop_walks(node.iter)) & set(changed_in(node)):
        told.append("L23 what a loop walks is changed in it")
    if isinstance(node, ast.Call) and isinstance(node.func, ast.Name) and node.func.id in OWN_NAMES:
        if not {keyword.arg for keyword in node.keywords} <= KEYWORDS.get(node.func.id, set()):
            told.append("L22 a keyword that is out")
    return told


def local_faults(tree):
    """L15: parameters and locals that are called like a class or an import of the file."""
    taken = {node.name for node in tree.body if isinstance(node, ast.ClassDef)}
    taken |= {alias.name for node in tree.body if isinstance(node, ast.ImportFrom) for alias in node.names}
    told = []
    for node in ast.walk(tree):
        stored = isinstance(node, ast.Name) and isinstance(node.ctx, ast.Store) and node.id in taken
        if stored or isinstance(node, ast.arg) and node.arg in taken:
            told.append((node.lineno, "L15 a local that is called like a class or an import"))
    return told


def faults(name, source):
    told = sign_faults(source)
    stem = name[:-3]
    if not re.fullmatch(r"[a-z][a-z0-9_]*\.py|__init__\.py", name) or stem in NO_FILES or stem.startswith("test_"):
        told.append((1, "L14 a file that is called so"))
    tree = ast.parse(source)
    told += text_faults(source) + top_faults(tree) + local_faults(tree)
    names = top_names(tree)
    for outer in ast.walk(tree):
        for node in ast.iter_child_nodes(outer):
            seen = def_faults(node, outer) + name_faults(node, names) + use_faults(node, outer)
            if isinstance(node, ast.stmt):
                seen += statement_faults(node, outer)
            if isinstance(node, ast.expr):
                seen += expression_faults(node)
            told += [(getattr(node, "lineno", outer.lineno if hasattr(outer, "lineno") else 1), what) for what in seen]
    return [f"{name}:{at}: {what}" for at, what in sorted(told)]


def drawn_from(sources):
    drawn = {}
    for name, source in sources.items():
        lines = [node for node in ast.parse(source).body if isinstance(node, ast.ImportFrom)]
        drawn[name] = [(node.module.partition(".")[2] + ".py", alias.name) for node in lines for alias in node.names]
    return drawn


def import_faults(sources):
    told = []
    drawn = drawn_from(sources)
    for name, pairs in drawn.items():
        for file, thing in pairs:
            tree = ast.parse(sources.get(file, ""))
            if not any(getattr(node, "name", None) == thing for node in tree.body):
                if not any(isinstance(node, ast.Assign) and thing == node.targets[0].id for node in tree.body):
                    told.append(f"{name}: L16 {thing} is not defined in {file}")
        reached = [file for file, thing in pairs]
        for file in reached:
            reached += [other for other, thing in drawn.get(file, []) if other not in reached]
        if name in reached:
            told.append(f"{name}: L16 draws from itself in some steps")
    return told


def package_faults(sources):
    methods = set()
    stored = set()
    calls = []
    for name, source in sources.items():
        for node in ast.walk(ast.parse(source)):
            if isinstance(node, ast.ClassDef):
                methods |= {thing.name for thing in node.body if isinstance(thing, ast.FunctionDef)}
            if isinstance(node, ast.Attribute) and isinstance(node.ctx, ast.Store):
                stored.add(node.attr)
            if isinstance(node, ast.Call) and isinstance(node.func, ast.Attribute):
                calls.append((name, node.func.attr))
    told = [f"L18 {name} is a method and a value" for name in sorted(methods & stored)]
    told += [f"{name}: L25 {method}" for name, method in calls if method not in METHODS | methods | UNDERSCORED]
    return told + import_faults(sources)
