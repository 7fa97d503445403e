"""Looks for what LANGUAGE.md rules out in a source text of the package, as far as one file shows it."""

import ast
import builtins
import re

STATEMENTS = (ast.FunctionDef, ast.ClassDef, ast.Assign, ast.AugAssign, ast.If, ast.While, ast.For, ast.Return,
              ast.Break, ast.Continue, ast.Pass, ast.Raise, ast.Try, ast.Expr, ast.ImportFrom)
EXPRESSIONS = (ast.BoolOp, ast.BinOp, ast.UnaryOp, ast.Lambda, ast.IfExp, ast.Dict, ast.List, ast.Tuple, ast.Set,
               ast.ListComp, ast.Compare, ast.Call, ast.JoinedStr, ast.FormattedValue, ast.Constant, ast.Attribute,
               ast.Subscript, ast.Slice, ast.Name)
TOP = (ast.ImportFrom, ast.FunctionDef, ast.ClassDef, ast.Assign)
PYTHONS_OWN = """len range enumerate zip min max sum abs sorted reversed int str bool list tuple dict set frozenset
isinstance ord repr any all divmod Exception ValueError TypeError KeyError IndexError LookupError ZeroDivisionError
ArithmeticError OverflowError RuntimeError NotImplementedError AttributeError StopIteration""".split()
METHODS = """append clear copy count endswith extend find get index insert isalnum isalpha isdigit islower isspace
isupper items join keys ljust lower lstrip partition pop remove replace reverse rfind rjust rpartition rsplit rstrip
setdefault split splitlines startswith strip update upper values zfill bit_length""".split()
SPECIAL = "__init__ __eq__ __repr__ __str__ __len__".split()
NOT_NAMES = """register mro elements open input version_info with_traceback add_note attrgetter breakpoint builtins
compile copyright credits delattr dir eval exec exit gc getattr globals hasattr help id importlib license locals
methodcaller os quit setattr super type vars sys __name__ format format_map""".split()
NOT_WORDS = re.compile(r"\b(type|typing|typing_extensions|enum|Enum|IntEnum|StrEnum|Flag|IntFlag|Generic|Protocol|ABC"
                       r"|ABCMeta|namedtuple|NamedTuple|TypedDict|TYPE_CHECKING|abstractmethod)\b"
                       r"|dataclass|overload|contextmanager")
KEYWORDS = {"sorted": ["key", "reverse"], "min": ["key", "default"], "max": ["key", "default"], "sum": ["start"],
            "enumerate": ["start"], "zip": ["strict"]}
WALKED = "zip enumerate reversed range".split()
WALKED_METHODS = "items keys values".split()
WALKERS = "list tuple dict sorted sum any all enumerate zip".split()


def faults_of(source, own_methods=()):
    """A list of pairs of a rule and a row's number."""
    tree = ast.parse(source)
    found = faults_of_rows(source) + faults_of_top(tree) + faults_of_walks(tree)
    for node in ast.walk(tree):
        found += [(rule, getattr(node, "lineno", 0)) for rule in rules_broken(node, own_methods)]
    return sorted(set(found))


def faults_of_rows(source):
    rows = source.split("\n")
    found = [("L10", 0)] if len(rows) > 401 else []
    for number, row in enumerate(rows, start=1):
        if len(row) > 120:
            found.append(("L10", number))
        if any(not " " <= sign <= "~" for sign in row):
            found.append(("L14", number))
        if NOT_WORDS.search(row):
            found.append(("L17", number))
    return found


def faults_of_top(tree):
    body = tree.body[1:] if ast.get_docstring(tree) is not None else tree.body
    found = [("L3", node.lineno) for node in body if not isinstance(node, TOP)]
    names = []
    for node in body:
        if isinstance(node, ast.Assign):
            names += [target.id for target in node.targets if isinstance(target, ast.Name)]
            found += [("L3", node.lineno) for part in ast.walk(node.value)
                      if isinstance(part, (ast.BinOp, ast.Call, ast.ListComp, ast.Lambda))]
        elif isinstance(node, (ast.FunctionDef, ast.ClassDef)):
            names.append(node.name)
        elif isinstance(node, ast.ImportFrom):
            names += [alias.name for alias in node.names]
    found += [("L15", 0) for name in names if names.count(name) > 1]
    inside = [id(part) for node in tree.body for part in ast.walk(node) if part is not node]
    found += [("L15", node.lineno) for node in ast.walk(tree) if isinstance(node, ast.ClassDef) and id(node) in inside]
    return found + faults_of_docstrings(tree)


def faults_of_docstrings(tree):
    """L6 knows a call by itself alone; only a module's top has a docstring (L3)."""
    top = tree.body[0] if tree.body and ast.get_docstring(tree) is not None else None
    return [("L6", node.lineno) for node in ast.walk(tree)
            if isinstance(node, ast.Expr) and node is not top and not isinstance(node.value, ast.Call)]


def faults_of_walks(tree):
    """L23, but for what is changed in a loop: ranges and their like stand where they are walked at once alone."""
    nodes = list(ast.walk(tree))
    walked = [id(node.iter) for node in nodes if isinstance(node, (ast.For, ast.comprehension))]
    walked += [id(part) for node in nodes if isinstance(node, ast.Call) for part in walked_arguments(node)]
    return [("L23", node.lineno) for node in nodes if is_to_be_walked(node) and id(node) not in walked]


def is_to_be_walked(node):
    if not isinstance(node, ast.Call):
        return False
    if isinstance(node.func, ast.Attribute):
        return node.func.attr in WALKED_METHODS
    return isinstance(node.func, ast.Name) and node.func.id in WALKED


def walked_arguments(node):
    if isinstance(node.func, ast.Attribute):
        return node.args if node.func.attr == "join" and isinstance(node.func.value, ast.Constant) else []
    if not isinstance(node.func, ast.Name):
        return []
    if node.func.id in ("min", "max") and len(node.args) == 1:
        return node.args
    return node.args[:1] if node.func.id in WALKERS else []


def rules_broken(node, own_methods):
    if isinstance(node, ast.stmt):
        return statement_rules(node)
    if isinstance(node, ast.expr):
        return expression_rules(node, own_methods)
    if isinstance(node, ast.arg):
        return binding_rules(node.arg) + (["L21"] if node.annotation else [])
    if isinstance(node, ast.arguments):
        return argument_rules(node)
    if isinstance(node, ast.comprehension) and len(node.ifs) > 1:
        return ["L7"]
    if isinstance(node, ast.ExceptHandler) and not isinstance(node.type, (ast.Name, ast.Tuple)):
        return ["L6"]
    return []


def argument_rules(node):
    if node.vararg or node.kwarg or node.kwonlyargs:
        return ["L4"]
    return [] if all(is_plain_default(default) for default in node.defaults) else ["L4"]


def is_plain_default(node):
    """A whole number, a text, True, False or None alone."""
    if isinstance(node, ast.UnaryOp) and isinstance(node.op, ast.USub):
        # Python reads a number below nought as a minus and a number; a minus ahead of a truth is none.
        return isinstance(node.operand, ast.Constant) and type(node.operand.value) is int
    return isinstance(node, ast.Constant) and (node.value is None or isinstance(node.value, (bool, int, str)))


def statement_rules(node):
    broken = [] if isinstance(node, STATEMENTS) else ["L6"]
    if isinstance(node, ast.Assign) and len(node.targets) > 1:
        broken.append("L6")
    if isinstance(node, (ast.For, ast.While)) and node.orelse:
        broken.append("L6")
    if isinstance(node, ast.Try) and node.finalbody:
        broken.append("L6")
    if isinstance(node, ast.ImportFrom):
        named = node.module or ""
        starred = any(alias.name == "*" or alias.asname for alias in node.names)
        if node.level or not named.startswith("cabinet.") or starred:
            broken.append("L2")
    if isinstance(node, (ast.FunctionDef, ast.ClassDef)):
        broken += binding_rules(node.name) + (["L4"] if node.decorator_list else [])
    if isinstance(node, ast.FunctionDef) and node.end_lineno - node.lineno >= 40:
        broken.append("L10")
    if isinstance(node, ast.ClassDef):
        values = [part for part in node.body if not isinstance(part, (ast.FunctionDef, ast.Pass))]
        broken += ["L5"] if values or len(node.bases) > 1 or node.keywords else []
    return broken


def expression_rules(node, own_methods):
    broken = [] if isinstance(node, EXPRESSIONS) else ["L7"]
    if isinstance(node, ast.Constant):
        broken += constant_rules(node.value)
    if isinstance(node, ast.BinOp) and isinstance(node.op, (ast.Div, ast.MatMult)):
        broken.append("L7")
    if isinstance(node, ast.ListComp) and len(node.generators) > 1:
        broken.append("L7")
    if isinstance(node, ast.Name):
        broken += name_rules(node)
    if isinstance(node, ast.Attribute):
        broken += binding_rules(node.attr, attribute=True)
    if isinstance(node, ast.Compare):
        broken += compare_rules(node)
    if isinstance(node, ast.Call):
        broken += call_rules(node, own_methods)
    return broken


def constant_rules(value):
    if value is not None and not isinstance(value, (bool, int, str)):
        return ["L7"]
    return ["L27"] if isinstance(value, str) and chr(37) in value else []


def name_rules(node):
    if not isinstance(node.ctx, ast.Load):
        return binding_rules(node.id)
    if hasattr(builtins, node.id) and node.id not in PYTHONS_OWN:
        return ["L8"]
    return ["L17"] if node.id in NOT_NAMES else []


def binding_rules(name, attribute=False):
    if name in SPECIAL:
        return []
    if not re.fullmatch("[A-Za-z][A-Za-z0-9_]*", name):
        return ["L12"]
    if name in NOT_NAMES:
        return ["L17"]
    return ["L15"] if hasattr(builtins, name) and not attribute else []


def compare_rules(node):
    sides = [node.left] + node.comparators
    for place, operator in enumerate(node.ops):
        if isinstance(operator, (ast.Is, ast.IsNot)):
            pair = sides[place:place + 2]
            if not any(isinstance(side, ast.Constant) and side.value in (None, True, False) for side in pair):
                return ["L20"]
    return []


def call_rules(node, own_methods):
    broken = []
    if isinstance(node.func, ast.Attribute):
        name = node.func.attr
        if name not in METHODS and name not in own_methods and name not in SPECIAL:
            broken.append("L25")
        if name in METHODS and node.keywords:
            broken.append("L22")
    if isinstance(node.func, ast.Name) and node.func.id in PYTHONS_OWN:
        allowed = KEYWORDS.get(node.func.id, [])
        broken += ["L22" for keyword in node.keywords if keyword.arg not in allowed]
    for keyword in node.keywords:
        if keyword.arg in ("reverse", "strict") and not isinstance(keyword.value, ast.Constant):
            broken.append("L22")
    return broken


def own_methods_of(sources):
    found = []
    for source in sources:
        for node in ast.walk(ast.parse(source)):
            if isinstance(node, ast.ClassDef):
                found += [part.name for part in node.body if isinstance(part, ast.FunctionDef)]
    return found
