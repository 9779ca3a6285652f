"""A look at the files of the package by the rules of LANGUAGE.md that a short program can see.

Each function below takes the name of a file and its syntax tree (or its text) and gives a list of
complaints. The rules that are not looked at here are still required.
"""

import ast
import builtins
import os
import re

FOLDER = os.path.join(os.path.dirname(os.path.dirname(os.path.abspath(__file__))), "papersat")

LIBRARY = {
    "heapq": {"heappush", "heappop", "heapify", "heapreplace", "heappushpop"},
    "math": {"gcd", "lcm", "isqrt", "comb", "perm", "factorial"},
    "itertools": {
        "product", "combinations", "permutations", "chain", "accumulate", "pairwise", "islice",
        "zip_longest",
    },
    "collections": {"defaultdict"},
}

BUILTINS = set(
    "len range enumerate zip min max sum abs sorted reversed int str bool bytes list tuple dict set "
    "frozenset isinstance ord repr any all divmod pow getattr hasattr setattr iter next map super "
    "Exception ValueError TypeError KeyError IndexError LookupError ZeroDivisionError "
    "ArithmeticError OverflowError RuntimeError NotImplementedError AttributeError StopIteration "
    "NotImplemented object property staticmethod classmethod".split()
)

METHODS = set(
    "append clear copy count endswith extend find get index insert isalnum isalpha isdigit islower "
    "isspace isupper items join keys ljust lower lstrip partition pop remove replace reverse rfind "
    "rjust rpartition rsplit rstrip setdefault split splitlines startswith strip update upper values "
    "zfill bit_length title capitalize swapcase casefold center expandtabs removeprefix removesuffix "
    "rindex isascii isdecimal isnumeric istitle isidentifier isprintable translate maketrans sort "
    "add discard format encode decode hex".split()
)

DUNDER_METHODS = set(
    "__init__ __eq__ __repr__ __str__ __len__ __enter__ __exit__ __call__ __iter__ __lt__ __le__ "
    "__gt__ __ge__ __ne__ __bool__ __contains__ __getitem__ __setitem__ __neg__ __pos__ __invert__ "
    "__abs__".split()
)

STATEMENTS = (
    ast.Assign, ast.AugAssign, ast.AnnAssign, ast.If, ast.While, ast.For, ast.Return, ast.Break,
    ast.Continue, ast.Pass, ast.Raise, ast.Assert, ast.Delete, ast.Nonlocal, ast.Match, ast.With,
    ast.Try, ast.Expr, ast.FunctionDef, ast.ClassDef, ast.ImportFrom, ast.Import,
)

CAUGHT = {"KeyError", "ZeroDivisionError", "StopIteration", "ValueError", "LookupError", "IndexError"}

NEVER = {
    "register", "mro", "elements", "open", "input", "law", "version_info", "with_traceback",
    "add_note", "_cold", "_tuplegetter", "_outside", "_record", "_written_out", "_member_names",
}

NEVER_WORDS = re.compile(
    r"\b(type|typing|typing_extensions|enum|Enum|IntEnum|StrEnum|Flag|IntFlag|Generic|Protocol|ABC|"
    r"ABCMeta|namedtuple|NamedTuple|TypedDict|TYPE_CHECKING|abstractmethod|_wall|_WallAttr)\b"
    r"|dataclass|overload|contextmanager"
)

BAD_STARTS = ("_wall", "_pe_", "_dcw_", "_enum_", "_cm_", "_twin_re_", "_lay_", "_law_", "_stub_", "_sre")

ATTRIBUTES_BARRED = set(
    "items keys values pop update append clear extend insert remove reverse setdefault sort args "
    "encode decode hex fromhex format as_integer_ratio bit_count conjugate from_bytes is_integer "
    "to_bytes real imag numerator denominator".split()
)


def sources():
    """A dict from the file names of the package to their texts."""
    texts = {}
    for name in sorted(os.listdir(FOLDER)):
        if name != "__pycache__":
            with open(os.path.join(FOLDER, name), encoding="utf-8", newline="") as source:
                texts[name] = source.read()
    return texts


def trees():
    """A dict from the file names of the package to their syntax trees."""
    return {name: ast.parse(text) for name, text in sources().items()}


def sizes(name, text):
    """L1, L10, L14: names of files, lengths, characters."""
    found = []
    if not re.fullmatch(r"[a-z][a-z0-9_]*\.py|__init__\.py|__main__\.py", name):
        found.append("L1 the name of the file")
    if re.fullmatch(r"law_.*|tests?|testing|test_.*|site|conftest|.*custom", name[:-3]):
        found.append("L14 the name of the file")
    lines = text.split("\n")
    if len(lines) > 399:
        found.append("L10 the file is too long")
    for number, line in enumerate(lines, 1):
        if len(line) > 120:
            found.append(f"L10 line {number} is too long")
        if any(not " " <= char <= "~" for char in line):
            found.append(f"L14 a character in line {number}")
    for node in ast.walk(ast.parse(text)):
        if isinstance(node, ast.FunctionDef) and node.end_lineno - node.lineno + 1 > 40:
            found.append(f"L10 {node.name} is too long")
    return found


def imports(name, tree):
    """L2, L16: what is imported, and where the imports stand."""
    found = []
    body = tree.body[1:] if ast.get_docstring(tree) is not None else tree.body
    top = [isinstance(node, (ast.Import, ast.ImportFrom)) for node in body]
    if top != sorted(top, reverse=True):
        found.append("L2 an import below the top")
    for node in ast.walk(tree):
        if isinstance(node, ast.Import) and name != "__main__.py":
            found.append("L2 import without from")
        if isinstance(node, ast.ImportFrom):
            found.extend(_import_faults(node))
    loaded = {node.id for node in ast.walk(tree) if isinstance(node, ast.Name)}
    for node in body:
        for alias in node.names if isinstance(node, ast.ImportFrom) else ():
            if name != "__init__.py" and (alias.asname or alias.name) not in loaded:
                found.append(f"{alias.name} is imported and not used")
    return found


def _import_faults(node):
    names = [alias.name for alias in node.names]
    if node.level or "*" in names:
        return ["L2 a dot or a star in an import"]
    if node.module in LIBRARY:
        wrong = [name for name in names if name not in LIBRARY[node.module]]
        return [f"L2 {name}" for name in wrong] + [f"L2 {a.name} as" for a in node.names if a.asname]
    parts = node.module.split(".")
    path = os.path.join(FOLDER, parts[1] + ".py") if len(parts) == 2 else ""
    if parts[0] != "papersat" or not os.path.isfile(path):
        return [f"L2 import from {node.module}"]
    with open(path, encoding="utf-8") as source:
        defined = defined_names(ast.parse(source.read()))
    return [f"L16 {name} is not defined in {node.module}" for name in names if name not in defined]


def defined_names(tree):
    """The names that a file defines itself."""
    names = []
    for node in tree.body:
        if isinstance(node, (ast.FunctionDef, ast.ClassDef)):
            names.append(node.name)
        if isinstance(node, ast.Assign):
            names.extend(target.id for target in node.targets)
    return names


def import_circles(all_trees):
    """L16: the files that import from each other."""
    wants = {}
    for name, tree in all_trees.items():
        modules = [n.module.split(".")[-1] + ".py" for n in tree.body if isinstance(n, ast.ImportFrom)]
        wants[name] = [module for module in modules if module in all_trees]
    done = {}
    while True:
        ready = [n for n in wants if n not in done and all(m in done for m in wants[n])]
        if not ready:
            return [name for name in wants if name not in done]
        done.update({name: True for name in ready})


def module_level(_, tree):
    """L3, L15: what stands at module level, each name once."""
    found = []
    for number, node in enumerate(tree.body):
        docstring = number == 0 and ast.get_docstring(tree) is not None
        kinds = (ast.ImportFrom, ast.FunctionDef, ast.ClassDef, ast.Assign)
        if not docstring and not isinstance(node, kinds):
            found.append(f"L3 line {node.lineno}")
        if isinstance(node, ast.Assign):
            if len(node.targets) != 1 or not isinstance(node.targets[0], ast.Name):
                found.append(f"L3 line {node.lineno}")
            if any(isinstance(part, (ast.Call, ast.Starred)) for part in ast.walk(node.value)):
                found.append(f"L3 a call or a star in line {node.lineno}")
    names = defined_names(tree)
    for node in tree.body:
        if isinstance(node, ast.ImportFrom):
            names.extend(alias.asname or alias.name for alias in node.names)
    found.extend(f"L15 {name} is bound twice" for name in set(names) if names.count(name) > 1)
    return found


def statements(_, tree):
    """L4, L5, L6, L19: statements, decorators, handlers."""
    found = []
    for node in ast.walk(tree):
        line = getattr(node, "lineno", 0)
        if isinstance(node, ast.stmt) and not isinstance(node, STATEMENTS):
            found.append(f"L6 line {line}")
        if isinstance(node, ast.FunctionDef):
            for decorator in node.decorator_list:
                text = ast.unparse(decorator)
                if text not in ("property", "staticmethod", "classmethod", f"{node.name}.setter"):
                    found.append(f"L4 line {line}")
        if isinstance(node, ast.ClassDef) and (node.decorator_list or node.keywords):
            found.append(f"L5 line {line}")
        if isinstance(node, ast.ExceptHandler) and node.type is None:
            found.append(f"L6 line {line}")
        if isinstance(node, ast.ExceptHandler) and isinstance(node.type, ast.Name):
            if hasattr(builtins, node.type.id) and node.type.id not in CAUGHT:
                found.append(f"L19 line {line}")
        if isinstance(node, ast.Expr) and not isinstance(node.value, (ast.Call, ast.Constant, ast.Yield, ast.YieldFrom)):
            found.append(f"L6 line {line}")
        if isinstance(node, ast.Raise) and node.exc is not None and not isinstance(node.exc, ast.Call):
            found.append(f"L19 line {line}")
    return found


def expressions(_, tree):
    """L7, L20, L24, L27: values."""
    found = []
    parents = {child: node for node in ast.walk(tree) for child in ast.iter_child_nodes(node)}
    for node in ast.walk(tree):
        line = getattr(node, "lineno", 0)
        if isinstance(node, ast.Constant) and isinstance(node.value, (float, complex)):
            found.append(f"L7 line {line}")
        if isinstance(node, ast.Constant) and isinstance(node.value, str) and "%" in node.value:
            found.append(f"L27 line {line}")
        if isinstance(node, (ast.BinOp, ast.AugAssign)) and isinstance(node.op, (ast.Div, ast.MatMult)):
            found.append(f"L7 line {line}")
        if isinstance(node, ast.BinOp) and isinstance(node.op, ast.Pow):
            if not (isinstance(node.right, ast.Constant) and 0 <= node.right.value <= 64):
                found.append(f"L27 line {line}")
        if isinstance(node, (ast.Await, ast.AsyncFor, ast.AsyncFunctionDef, ast.AsyncWith)):
            found.append(f"L6 line {line}")
        if isinstance(node, ast.Compare):
            for op, right in zip(node.ops, node.comparators):
                plain = isinstance(right, ast.Constant) and right.value in (None, True, False)
                if isinstance(op, (ast.Is, ast.IsNot)) and not plain:
                    found.append(f"L20 line {line}")
        if _is_set(node) and not _set_fits(node, parents[node]):
            found.append(f"L24 line {line}")
        if _is_view(node) and not isinstance(parents[node], (ast.For, ast.comprehension, ast.Call)):
            found.append(f"L23 line {line}")
    return found


def _is_set(node):
    if isinstance(node, (ast.Set, ast.SetComp)):
        return True
    return isinstance(node, ast.Call) and ast.unparse(node.func) in ("set", "frozenset")


def _set_fits(node, parent):
    if isinstance(parent, ast.Call):
        return ast.unparse(parent.func) in ("sorted", "len") and not parent.keywords
    return isinstance(parent, (ast.Compare, ast.Assign, ast.BinOp))


def _is_view(node):
    if not isinstance(node, ast.Call):
        return False
    if isinstance(node.func, ast.Attribute):
        return node.func.attr in ("items", "keys", "values")
    return isinstance(node.func, ast.Name) and node.func.id in ("zip", "enumerate", "reversed", "map")


def names(_, tree):
    """L8, L12, L15, L17: names."""
    found = []
    bound = set(defined_names(tree))
    tops = {node.name for node in tree.body if isinstance(node, ast.ClassDef)}
    for node in ast.walk(tree):
        if isinstance(node, ast.ImportFrom):
            tops.update(alias.asname or alias.name for alias in node.names)
    for node in ast.walk(tree):
        for name in _names_bound(node):
            bound.add(name)
            if hasattr(builtins, name):
                found.append(f"L15 {name} is a builtin")
            if name in tops:
                found.append(f"L15 {name} is a class or an import")
        for name in _names_used(node):
            if name in NEVER or name.startswith(BAD_STARTS) or not name.isascii():
                found.append(f"L17 {name}")
            if name.startswith("__") and name not in DUNDER_METHODS and not _is_operator(name):
                found.append(f"L8 {name}")
    for node in ast.walk(tree):
        if isinstance(node, ast.Name) and isinstance(node.ctx, ast.Load):
            if node.id == "_":
                found.append("L12 _ is read")
            if node.id not in bound | tops and node.id not in BUILTINS:
                found.append(f"L8 {node.id}")
    return found


def _is_operator(name):
    words = "add sub mul floordiv mod pow and or xor lshift rshift".split()
    return name.strip("_") in words + ["r" + word for word in words] + ["i" + word for word in words]


def _names_bound(node):
    if isinstance(node, ast.Name) and isinstance(node.ctx, ast.Store):
        return [node.id]
    if isinstance(node, ast.arg):
        return [node.arg]
    if isinstance(node, ast.ExceptHandler) and node.name:
        return [node.name]
    return []


def _names_used(node):
    if isinstance(node, ast.Name):
        return [node.id]
    if isinstance(node, ast.Attribute):
        return [node.attr]
    if isinstance(node, (ast.FunctionDef, ast.ClassDef)):
        return [node.name]
    return _names_bound(node)


def words(_, text):
    """L17, L27: words that do not occur in code and strings, and escapes."""
    found = []
    tree = ast.parse(text)
    lines = text.split("\n")
    skipped = set()
    for node in ast.walk(tree):
        if isinstance(node, (ast.Module, ast.ClassDef, ast.FunctionDef)):
            if ast.get_docstring(node) is not None:
                skipped.update(range(node.body[0].lineno, node.body[0].end_lineno + 1))
    for number, line in enumerate(lines, 1):
        code = line.split("#")[0]
        if number not in skipped and NEVER_WORDS.search(code):
            found.append(f"L17 line {number}")
        if re.search(r"\\[^nt\\'\"]", line):
            found.append(f"L27 line {number}")
    return found


def attributes(all_trees):
    """L18, L25, L26: methods and attributes of the whole package."""
    found = []
    methods = set()
    kept = set()
    for tree in all_trees.values():
        for node in ast.walk(tree):
            if isinstance(node, ast.ClassDef):
                methods.update(part.name for part in node.body if isinstance(part, ast.FunctionDef))
            if isinstance(node, ast.Attribute) and isinstance(node.ctx, ast.Store):
                kept.add(node.attr)
    found.extend(f"L26 {name}" for name in sorted(kept & ATTRIBUTES_BARRED))
    found.extend(f"L18 {name} is a method and an attribute" for name in sorted(kept & methods))
    for name, tree in all_trees.items():
        for node in ast.walk(tree):
            if isinstance(node, ast.Attribute) and isinstance(node.ctx, ast.Load):
                if node.attr not in METHODS | methods | kept:
                    found.append(f"L25 {name}: {node.attr}")
    return found
