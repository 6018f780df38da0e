"""Which lines of a file break a rule of LANGUAGE.md, as far as a plain look at the code can see it.

Each check takes a parsed file and tells (line, rule) for each breach; what a look cannot see is not checked.
"""

import ast
import builtins
import re
import tokenize
from io import StringIO

LIBRARY = {
    "heapq": "heappush heappop heapify heapreplace heappushpop".split(),
    "math": "gcd lcm isqrt comb perm factorial".split(),
    "itertools": "product combinations permutations".split(),
}

CALLABLE = (
    "len range enumerate zip min max sum abs sorted reversed int str bool bytes list tuple dict set isinstance ord "
    "repr any all divmod iter next map super property staticmethod classmethod Exception ValueError TypeError "
    "KeyError IndexError LookupError ZeroDivisionError ArithmeticError OverflowError RuntimeError "
    "NotImplementedError AttributeError StopIteration NotImplemented"
).split()

FIRST_METHODS = (
    "append clear copy count endswith extend find get index insert isalnum isalpha isdigit islower isspace isupper "
    "items join keys ljust lower lstrip partition pop remove replace reverse rfind rjust rpartition rsplit rstrip "
    "setdefault split splitlines startswith strip update upper values zfill bit_length"
).split()

METHODS = FIRST_METHODS + (
    "title capitalize swapcase casefold center expandtabs removeprefix removesuffix rindex isascii isdecimal isnumeric "
    "istitle isidentifier isprintable translate maketrans encode decode hex fromhex to_bytes from_bytes add discard"
).split()

SIGNS = (
    "lt le gt ge ne add sub mul floordiv mod pow and or xor lshift rshift radd rsub rmul rfloordiv rmod rand ror "
    "rxor rlshift rrshift iadd isub imul ifloordiv imod ipow iand ior ixor ilshift irshift"
).split()

SPECIAL = (
    "init eq repr str len enter exit call iter neg pos invert abs bool contains getitem setitem"
).split() + SIGNS

CAUGHT = "KeyError ZeroDivisionError StopIteration ValueError LookupError IndexError".split()

NOWHERE = "register mro elements open input law version_info with_traceback add_note".split()

NO_WORDS = (
    "type typing typing_extensions enum Enum IntEnum StrEnum Flag IntFlag Generic Protocol ABC ABCMeta namedtuple "
    "NamedTuple TypedDict TYPE_CHECKING abstractmethod Meta _wall _WallAttr"
).split()

NO_ATTRIBUTES = (
    "items keys values pop update append clear extend insert remove reverse setdefault sort args encode decode hex "
    "fromhex format format_map"
).split()

FUNCTIONS = (ast.FunctionDef, ast.Lambda)
COMPREHENSIONS = (ast.ListComp, ast.SetComp, ast.DictComp, ast.GeneratorExp)
BARRED = (
    ast.Global, ast.AsyncFunctionDef, ast.AsyncFor, ast.AsyncWith, ast.Await, ast.TryStar, ast.MatMult, ast.MatchClass,
    ast.MatchMapping,
)


def is_special(name):
    return name.startswith("__") and name.endswith("__")


def parameters(node):
    """All parameters of a function or a lambda."""
    rest = [node.args.vararg, node.args.kwarg]
    found = node.args.posonlyargs + node.args.args + node.args.kwonlyargs
    return found + [parameter for parameter in rest if parameter]


def sizes(text):
    """L10, L14 and L17: what the text itself shows."""
    lines = text.split("\n")
    if len(lines) > 400:
        yield 400, "L10"
    for at, line in enumerate(lines, 1):
        if len(line) > 120:
            yield at, "L10"
        if any(not " " <= sign <= "~" for sign in line):
            yield at, "L14"


def words(text):
    """L17 and L27: what stands in the tokens, comments and docstrings aside."""
    for token in tokenize.generate_tokens(StringIO(text).readline):
        if token.type == tokenize.COMMENT or token.string.startswith('"""'):
            continue
        at, is_string = token.start[0], token.type == tokenize.STRING
        if any(re.search(rf"\b{word}\b", token.string) for word in NO_WORDS):
            yield at, "L17"
        if is_string and re.search(r"\\[^nt\\'\"\nx]", token.string):
            yield at, "L27"


def module_level(tree):
    """L2, L3, L15 and L16: what stands at module level."""
    allowed = (ast.ImportFrom, ast.FunctionDef, ast.ClassDef, ast.Assign)
    bound, below = [], False
    for at, node in enumerate(tree.body):
        if at == 0 and isinstance(node, ast.Expr) and isinstance(node.value, ast.Constant):
            continue
        if not isinstance(node, allowed):
            yield node.lineno, "L3"
        if isinstance(node, ast.ImportFrom):
            bound += [alias.asname or alias.name for alias in node.names]
            if below:
                yield node.lineno, "L2"
            continue
        below = True
        if isinstance(node, ast.Assign):
            bound += [target.id for target in node.targets if isinstance(target, ast.Name)]
            if any(isinstance(part, (ast.Call, ast.Lambda, *COMPREHENSIONS)) for part in ast.walk(node.value)):
                yield node.lineno, "L3"
        else:
            bound.append(getattr(node, "name", ""))
    if len({*bound}) < len(bound):
        yield 1, "L15"


def imports(tree):
    """L2 and L16: what is imported from where."""
    for node in ast.walk(tree):
        if isinstance(node, ast.Import):
            yield node.lineno, "L2"
        if isinstance(node, ast.ImportFrom):
            names = [alias.name for alias in node.names]
            if node.module in LIBRARY:
                if any(name not in LIBRARY[node.module] for name in names):
                    yield node.lineno, "L2"
            elif node.level or not (node.module or "").startswith("tapedonce.") or "*" in names:
                yield node.lineno, "L2"


def statements(tree):
    """L6, L7, L19, L20 and L27: kinds of statements and expressions."""
    for node in ast.walk(tree):
        at = getattr(node, "lineno", 0)
        if isinstance(node, BARRED):
            yield at, "L6"
        if isinstance(node, ast.Constant) and isinstance(node.value, (float, complex)):
            yield at, "L7"
        if isinstance(node, ast.Constant) and isinstance(node.value, (str, bytes)) and "%" in repr(node.value):
            yield at, "L27"
        if isinstance(node, (ast.BinOp, ast.AugAssign)):
            if isinstance(node.op, ast.Pow) and not isinstance(getattr(node, "right", None), ast.Constant):
                yield at, "L27"
            if isinstance(node.op, ast.Div):
                yield at, "L7"
        if isinstance(node, ast.BinOp) and isinstance(node.op, ast.Mod) and isinstance(
                node.left, (ast.Name, ast.Attribute, ast.Subscript, ast.Constant)):
            yield at, "L7"
        if isinstance(node, ast.Compare):
            for sign, side in zip(node.ops, node.comparators):
                alone = isinstance(side, ast.Constant) and side.value in (None, True, False)
                if isinstance(sign, (ast.Is, ast.IsNot)) and not alone:
                    yield at, "L20"
        if isinstance(node, ast.Raise) and node.exc and not (
                isinstance(node.exc, ast.Call) and isinstance(node.exc.func, ast.Name)):
            yield at, "L19"
        if isinstance(node, ast.ExceptHandler):
            named = node.type.elts if isinstance(node.type, ast.Tuple) else [node.type]
            for error in named:
                name = getattr(error, "id", "")
                if not name or hasattr(builtins, name) and name not in CAUGHT:
                    yield at, "L19"


def calls(tree, own):
    """L7, L8, L22 and L25: what is called, own being the names of the package's methods."""
    for node in ast.walk(tree):
        if not isinstance(node, ast.Call):
            continue
        if isinstance(node.func, ast.Attribute):
            name = node.func.attr
            if name not in METHODS and name not in own and name != "__init__":
                yield node.lineno, "L25"
        if isinstance(node.func, ast.Name):
            if node.func.id in ("any", "all", "min", "max", "sum", "sorted"):
                if any(isinstance(argument, ast.GeneratorExp) for argument in node.args):
                    yield node.lineno, "L7"
            if node.func.id == "isinstance":
                named = node.args[1].elts if isinstance(node.args[1], ast.Tuple) else [node.args[1]]
                if not all(isinstance(part, ast.Name) for part in named):
                    yield node.lineno, "L22"


def names(tree):
    """L8, L12, L15, L17 and L26: what things are called."""
    taken = [node.name for node in tree.body if isinstance(node, ast.ClassDef)]
    for node in tree.body:
        if isinstance(node, ast.ImportFrom):
            taken += [alias.asname or alias.name for alias in node.names]
    for node in ast.walk(tree):
        at = getattr(node, "lineno", 0)
        bound = []
        if isinstance(node, ast.Name):
            if isinstance(node.ctx, ast.Load):
                if hasattr(builtins, node.id) and node.id not in CALLABLE:
                    yield at, "L8"
            else:
                bound.append(node.id)
        if isinstance(node, FUNCTIONS):
            bound += [parameter.arg for parameter in parameters(node)]
        if isinstance(node, ast.Attribute) and isinstance(node.ctx, ast.Store) and node.attr in NO_ATTRIBUTES:
            yield at, "L26"
        for name in bound:
            if hasattr(builtins, name) or name in taken:
                yield at, "L15"
        named = bound + [getattr(node, "name", None), getattr(node, "attr", None), getattr(node, "arg", None)]
        for name in named:
            if isinstance(name, str) and name in NOWHERE:
                yield at, "L17"
            if isinstance(name, str) and not re.fullmatch(r"_|_?[A-Za-z][A-Za-z0-9_]*|__[a-z]+__", name):
                yield at, "L12"


def functions(tree):
    """L4, L5, L10 and L28: functions and their methods."""
    for node in ast.walk(tree):
        if isinstance(node, ast.FunctionDef):
            if node.end_lineno - node.lineno >= 40:
                yield node.lineno, "L10"
            for mark in node.decorator_list:
                plain = isinstance(mark, ast.Name) and mark.id in ("property", "staticmethod", "classmethod")
                if not plain and not (isinstance(mark, ast.Attribute) and mark.attr == "setter"):
                    yield node.lineno, "L4"
            if node.name == "__init__" and any(isinstance(part, ast.Return) for part in ast.walk(node)):
                yield node.lineno, "L28"
            if is_special(node.name) and node.name.strip("_") not in SPECIAL:
                yield node.lineno, "L5"
            if node.name.strip("_") in SIGNS and is_special(node.name):
                if [parameter.arg for parameter in parameters(node)] != ["self", "other"]:
                    yield node.lineno, "L5"


def leavings(tree):
    """L6: the rows of an __exit__ assign attributes and names to attributes, and ask kind alone, whether it is None."""
    for node in ast.walk(tree):
        if not isinstance(node, ast.FunctionDef) or node.name != "__exit__":
            continue
        rows = list(node.body)
        while rows:
            row = rows.pop()
            if isinstance(row, ast.If):
                if not re.fullmatch(r"kind is (not )?None", ast.unparse(row.test)):
                    yield row.lineno, "L6"
                rows += row.body + row.orelse
            elif isinstance(row, ast.Assign):
                targets = all(isinstance(target, ast.Attribute) for target in row.targets)
                if not targets or not re.fullmatch(r"[a-z_.]+", ast.unparse(row.value)):
                    yield row.lineno, "L6"
            elif not isinstance(row, ast.Pass):
                yield row.lineno, "L6"


def setters(tree):
    """L5: a property is assigned in no loop."""
    settable = [node.name for node in ast.walk(tree) if isinstance(node, ast.FunctionDef) and any(
        isinstance(mark, ast.Attribute) and mark.attr == "setter" for mark in node.decorator_list)]
    for loop in ast.walk(tree):
        for node in ast.walk(loop) if isinstance(loop, (ast.For, ast.While)) else ():
            if isinstance(node, ast.Attribute) and isinstance(node.ctx, ast.Store) and node.attr in settable:
                yield node.lineno, "L5"


def classes(tree):
    """L5: what stands in a class."""
    for node in ast.walk(tree):
        if not isinstance(node, ast.ClassDef):
            continue
        if node.decorator_list or node.keywords:
            yield node.lineno, "L5"
        methods = [part.name for part in node.body if isinstance(part, ast.FunctionDef)]
        if "__getitem__" in methods and "__iter__" not in methods:
            yield node.lineno, "L5"
        for part in node.body:
            if not isinstance(part, (ast.FunctionDef, ast.Assign, ast.Expr, ast.Pass)):
                yield part.lineno, "L5"


def orders(tree):
    """L5: beside a class with an order, sorted, min and max take what is plainly numbers or strings."""
    for node in ast.walk(tree):
        if isinstance(node, ast.Call) and isinstance(node.func, ast.Name) and node.func.id in ("sorted", "min", "max"):
            if not any(is_plainly_plain(argument) for argument in node.args):
                yield node.lineno, "L5"


def is_plainly_plain(node):
    """Whether an expression shows that it is a number or a string, or a list of these."""
    if isinstance(node, ast.Constant):
        return isinstance(node.value, (int, str))
    if isinstance(node, ast.ListComp):
        return is_plainly_plain(node.elt)
    return isinstance(node, ast.Call) and isinstance(node.func, ast.Name) and node.func.id in "len int ord str repr".split()


def operators(tree):
    """L5: an operator, but for the in-place ones, changes nothing by +=, and assigns no attribute and no item."""
    for node in ast.walk(tree):
        if not isinstance(node, ast.FunctionDef) or not is_special(node.name):
            continue
        name = node.name.strip("_")
        if name in ("init", "setitem", "enter", "exit", "call") or name in SIGNS and name[0] == "i":
            continue
        for part in ast.walk(node):
            if isinstance(part, ast.AugAssign) or isinstance(part, (ast.Attribute, ast.Subscript)) and not isinstance(
                    part.ctx, ast.Load):
                yield part.lineno, "L5"


def whole_package(trees):
    """L5, L18 and L26: names of properties, methods and attributes that do not go together, over all files."""
    methods, properties, class_methods, attributes, settable = set(), set(), set(), set(), set()
    for tree in trees:
        for node in ast.walk(tree):
            if isinstance(node, ast.Attribute) and isinstance(node.ctx, ast.Store):
                attributes.add(node.attr)
            for part in node.body if isinstance(node, ast.ClassDef) else ():
                if isinstance(part, ast.FunctionDef):
                    marks = [getattr(mark, "id", getattr(mark, "attr", "")) for mark in part.decorator_list]
                    kinds = {"property": properties, "classmethod": class_methods, "setter": settable}
                    kinds.get("".join(marks), methods).add(part.name)
    yield from sorted((name, "a property and a method") for name in properties & (methods | class_methods))
    yield from sorted((name, "a property and an attribute") for name in (properties & attributes) - settable)
    yield from sorted((name, "a class method and a method") for name in class_methods & methods)
    yield from sorted((name, "a method and an attribute") for name in methods & attributes)
    builtin = {name for value in ("", b"", 0, [], {}, ()) for name in dir(value) if not is_special(name)}
    allowed = {"count", "index", "title", "find", "get", "join", "lower", "upper", "split", "strip", "copy", "add"}
    yield from sorted((name, "of builtin values") for name in (class_methods | properties) & builtin)
    yield from sorted((name, "of builtin values") for name in (methods & builtin) - {*FIRST_METHODS})
    yield from sorted((name, "of builtin values") for name in attributes & builtin - allowed)


def own_methods(tree):
    """The names of the methods of a file's classes."""
    found = [node for node in ast.walk(tree) if isinstance(node, ast.ClassDef)]
    return [part.name for node in found for part in node.body if isinstance(part, ast.FunctionDef)]


def breaches(text, own=()):
    """All (line, rule) that the checks find in a file's text, own being methods of other files."""
    tree = ast.parse(text)
    methods = [*own, *own_methods(tree)]
    found = [*sizes(text), *words(text), *calls(tree, methods)]
    for check in (module_level, imports, statements, names, functions, classes, orders, operators, leavings, setters):
        found += check(tree)
    return sorted({*found})
