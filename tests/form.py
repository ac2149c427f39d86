"""Reads a package's files and tells where they leave LANGUAGE.md, rule by rule.

It sees what can be seen in a file's words; what hangs on values is left to the reader.
"""

import ast
import builtins
import io
import re
import tokenize
from pathlib import Path

ERRORS = set(
    "Exception ValueError TypeError KeyError IndexError LookupError ZeroDivisionError ArithmeticError"
    " OverflowError RuntimeError NotImplementedError AttributeError StopIteration".split()
)
CALLED = set(
    "len range enumerate zip min max sum abs sorted reversed int str bool list tuple dict set frozenset"
    " isinstance ord repr any all divmod".split()
)
METHODS = set(
    "append clear copy count endswith extend find get index insert isalnum isalpha isdigit islower isspace"
    " isupper items join keys ljust lower lstrip partition pop remove replace reverse rfind rjust rpartition"
    " rsplit rstrip setdefault split splitlines startswith strip update upper values zfill bit_length".split()
)
CHANGING = set("append clear extend insert pop remove reverse setdefault update".split())
READING = set("get items keys values index count copy".split())
OWN_VALUES = set("count index title find get join lower upper split strip copy add".split())
DUNDER_METHODS = set("__init__ __eq__ __repr__ __str__ __len__".split())
PLACES_OF_WALKS = set("list tuple dict sorted sum any all enumerate zip min max".split())
ANNOTATION_NAMES = set("object float bytes".split())
KEY_NAMES = set("len int str abs sum min max tuple".split())
ISINSTANCE_NAMES = set("int str bool list tuple dict".split()) | ERRORS
NOWHERE = set(
    "register mro elements open input version_info with_traceback add_note f_back f_code f_locals f_globals"
    " f_builtins f_lineno f_trace tb_next tb_frame tb_lineno co_names co_code co_consts gi_frame cr_frame".split()
)
NOT_AS_NAMES = set(
    "attrgetter breakpoint builtins compile copyright credits delattr dir eval exec exit gc getattr globals"
    " hasattr help id importlib license locals methodcaller os quit setattr super type vars".split()
)
WORDS = (
    "type typing typing_extensions enum Enum IntEnum StrEnum Flag IntFlag Generic Protocol ABC ABCMeta"
    " namedtuple NamedTuple TypedDict TYPE_CHECKING abstractmethod".split()
)
WORD_PATTERN = re.compile(r"\b(" + "|".join(WORDS) + r")\b|dataclass|overload|contextmanager")
FILE_PATTERN = re.compile(r"[a-z0-9][a-z0-9_]*\.py|__init__\.py|__main__\.py")
FILE_NAMES_OUT = {"test", "tests", "testing", "site", "conftest", "sitecustomize", "usercustomize"} | set(WORDS)
KEYWORDS = {
    "sorted": {"key", "reverse"},
    "min": {"key", "default"},
    "max": {"key", "default"},
    "sum": {"start"},
    "enumerate": {"start"},
    "zip": {"strict"},
}
BUILTIN_NAMES = {name for name in dir(builtins) if not name.startswith("_")}
BUILTIN_ATTRIBUTES = {name for kind in (str, int, list, tuple, dict, set, bytes) for name in dir(kind)}
FUNCTIONS = (ast.FunctionDef, ast.Lambda)
NODES_OUT = {
    "L6": "With AsyncWith Match Delete Assert Global Nonlocal Yield YieldFrom AsyncFunctionDef AsyncFor Await TryStar",
    "L7": "SetComp DictComp GeneratorExp NamedExpr Starred Div MatMult",
}


class Source:
    def __init__(self, package, name, text):
        self.package = package
        self.name = name
        self.text = text
        self.tree = ast.parse(text)
        self.nodes = list(ast.walk(self.tree))
        self.parents = {}
        for node in self.nodes:
            for child in ast.iter_child_nodes(node):
                self.parents[child] = node
        self.is_main = name == "__main__.py"
        self.classes = {node.name for node in self.each(ast.ClassDef)}
        self.imports = {alias.asname or alias.name for node in self.each(ast.ImportFrom) for alias in node.names}
        self.top = top_names(self.tree)
        self.notes = {part for node in self.nodes for part in annotation_parts(node)}

    def each(self, *kinds):
        return [node for node in self.nodes if isinstance(node, kinds)]

    def above(self, node):
        while node in self.parents:
            node = self.parents[node]
            yield node

    def in_function(self, node):
        return any(isinstance(one, FUNCTIONS) for one in self.above(node))

    def is_class(self, name):
        return name in self.classes or (name in self.imports and name[:1].isupper() and not name.isupper())


def top_names(tree):
    names = {}
    for node in tree.body:
        if isinstance(node, (ast.FunctionDef, ast.ClassDef)):
            names.setdefault(node.name, []).append(node)
        elif isinstance(node, ast.ImportFrom) and node.module != "__future__":
            for alias in node.names:
                names.setdefault(alias.asname or alias.name, []).append(node)
        elif isinstance(node, (ast.Assign, ast.AnnAssign)):
            for target in node.targets if isinstance(node, ast.Assign) else [node.target]:
                if isinstance(target, ast.Name):
                    names.setdefault(target.id, []).append(node)
    return names


def annotation_parts(node):
    for field in ("annotation", "returns"):
        note = getattr(node, field, None)
        if isinstance(note, ast.AST):
            yield from ast.walk(note)


def is_text(node):
    return isinstance(node, ast.Expr) and isinstance(node.value, ast.Constant) and isinstance(node.value.value, str)


def is_plain(node, functions):
    if isinstance(node, ast.Constant):
        return node.value is None or isinstance(node.value, (int, str))
    if isinstance(node, ast.UnaryOp):
        return isinstance(node.op, ast.USub) and is_plain(node.operand, functions)
    if isinstance(node, (ast.List, ast.Tuple)):
        return all(is_plain(part, functions) for part in node.elts)
    if isinstance(node, ast.Dict):
        return all(part is not None and is_plain(part, functions) for part in node.keys + node.values)
    return isinstance(node, ast.Name) and node.id in functions


def called_name(node):
    return node.func.id if isinstance(node, ast.Call) and isinstance(node.func, ast.Name) else None


def called_method(node):
    return node.func.attr if isinstance(node, ast.Call) and isinstance(node.func, ast.Attribute) else None


# Files as a whole


def check_folder(folder):
    found = []
    for path in sorted(folder.rglob("*")):
        if "__pycache__" in path.parts:
            continue
        if path.is_dir():
            if not (path / "__init__.py").is_file():
                found.append(("L14", path.name, 0))
            continue
        if not FILE_PATTERN.fullmatch(path.name):
            found.append(("L1", path.name, 0))
        if path.stem in FILE_NAMES_OUT | BUILTIN_NAMES or path.name.startswith("test_"):
            found.append(("L14", path.name, 0))
        if path.name == "__main__.py" and path.parent != folder:
            found.append(("L14", path.name, 0))
    if not (folder / "__init__.py").is_file():
        found.append(("L14", folder.name, 0))
    return found


def check_size(source):
    lines = source.text.split("\n")
    if len(lines) - 1 > 400:
        yield "L10", 401
    for number, line in enumerate(lines, start=1):
        if len(line) > 120 or "\t" in line:
            yield "L10", number
        if any(not " " <= sign <= "~" for sign in line):
            yield "L14", number
        if WORD_PATTERN.search(line):
            yield "L17", number
    for node in source.each(ast.FunctionDef):
        if node.end_lineno - node.lineno + 1 > 40:
            yield "L10", node.lineno


def check_tokens(source):
    for token in tokenize.generate_tokens(io.StringIO(source.text).readline):
        kind = tokenize.tok_name[token.type]
        if kind in ("STRING", "FSTRING_START", "FSTRING_MIDDLE"):
            bare = re.sub(r"\\[nt\\'\"]", "", token.string)
            if "\\" in bare or "%" in bare:
                yield "L27", token.start[0]
        if kind == "NUMBER" and len(token.string) > 900:
            yield "L27", token.start[0]


def check_imports(source):
    for node in source.each(ast.Import):
        if not (source.is_main and [alias.name for alias in node.names] == ["sys"] and node in source.tree.body):
            yield "L2", node.lineno
    for node in source.each(ast.ImportFrom):
        if node not in source.tree.body or node.level != 0 or any(alias.name == "*" for alias in node.names):
            yield "L2", node.lineno
        elif node.module == "__future__":
            if [alias.name for alias in node.names] != ["annotations"]:
                yield "L2", node.lineno
        elif not node.module.startswith(source.package + ".") or node.module.endswith("__main__"):
            yield "L2", node.lineno


def check_top(source):
    functions = set()
    for place, node in enumerate(source.tree.body):
        if isinstance(node, ast.FunctionDef):
            functions.add(node.name)
        elif isinstance(node, (ast.Assign, ast.AnnAssign)):
            if node.value is None or not is_plain(node.value, functions):
                yield "L3", node.lineno
            elif isinstance(node.value, (ast.List, ast.Dict)):
                parts = list(ast.walk(node.value))[1:]
                if any(isinstance(part, (ast.List, ast.Dict)) for part in parts):
                    yield "L15", node.lineno
        elif not isinstance(node, (ast.Import, ast.ImportFrom, ast.ClassDef)):
            last = source.is_main and isinstance(node, ast.If) and place == len(source.tree.body) - 1
            if not last and not (place == 0 and is_text(node)):
                yield "L3", node.lineno
    for nodes in source.top.values():
        if len(nodes) > 1:
            yield "L15", nodes[1].lineno


# Defs, classes and statements


def check_functions(source):
    for node in source.each(*FUNCTIONS):
        given = node.args
        if given.vararg or given.kwarg or given.kwonlyargs or given.posonlyargs:
            yield "L4", node.lineno
        if not all(is_plain(value, set()) for value in given.defaults):
            yield "L4", node.lineno
        if isinstance(node, ast.FunctionDef):
            if node.decorator_list:
                yield "L4", node.lineno
            notes = [one for part in [node, *given.args] for one in annotation_parts(part)]
            if notes and source.in_function(node):
                yield "L21", node.lineno
    for node in source.each(ast.AnnAssign):
        if node.value is None or not isinstance(node.target, ast.Name):
            yield "L21", node.lineno


def check_classes(source):
    for node in source.each(ast.ClassDef):
        if len(node.bases) > 1 or node.keywords or node.decorator_list:
            yield "L5", node.lineno
        if any(isinstance(base, ast.Name) and base.id in ("StopIteration", "AttributeError") for base in node.bases):
            yield "L18", node.lineno
        if node not in source.tree.body:
            yield "L15", node.lineno
        methods = [one for one in node.body if isinstance(one, ast.FunctionDef)]
        if len({one.name for one in methods}) < len(methods):
            yield "L18", node.lineno
        for one in node.body:
            if one not in methods and not isinstance(one, ast.Pass) and not (one is node.body[0] and is_text(one)):
                yield "L5", one.lineno
        for one in methods:
            if one.name.startswith("__"):
                if one.name not in DUNDER_METHODS:
                    yield "L5", one.lineno
                yield from check_dunder(one)


def check_dunder(method):
    for node in ast.walk(method):
        if isinstance(node, ast.Return) and node.value is not None:
            if method.name == "__init__":
                yield "L28", node.lineno
            if method.name == "__len__" and not isinstance(node.value, ast.Constant):
                if called_name(node.value) != "len":
                    yield "L28", node.lineno
            if method.name in ("__repr__", "__str__") and not isinstance(node.value, (ast.Constant, ast.JoinedStr)):
                if called_name(node.value) not in ("str", "repr") and called_method(node.value) != "join":
                    yield "L28", node.lineno
        elif method.name != "__init__":
            stores = isinstance(getattr(node, "ctx", None), ast.Store) and not isinstance(node, ast.Name)
            if stores or isinstance(node, ast.AugAssign) or called_method(node) in CHANGING:
                yield "L28", node.lineno


def check_statements(source):
    for node in source.nodes:
        for rule, names in NODES_OUT.items():
            if node.__class__.__name__ in names.split():
                yield rule, getattr(node, "lineno", getattr(source.parents[node], "lineno", 0))
    for node in source.each(ast.For, ast.While):
        if node.orelse:
            yield "L6", node.lineno
    for node in source.each(ast.Try):
        if node.finalbody:
            yield "L6", node.lineno
    for node in source.each(ast.Assign):
        if len(node.targets) > 1 or isinstance(node.targets[0], (ast.Tuple, ast.List)):
            yield "L6", node.lineno
    for node in source.each(ast.Expr):
        body = getattr(source.parents[node], "body", [None])
        if not isinstance(node.value, ast.Call) and not (is_text(node) and body[0] is node):
            yield "L6", node.lineno


def check_values(source):
    for node in source.each(ast.Constant):
        if node not in source.notes and isinstance(node.value, (float, complex, bytes, type(...))):
            yield "L7", node.lineno
    for node in source.each(ast.ListComp):
        if len(node.generators) > 1 or len(node.generators[0].ifs) > 1 or node.generators[0].is_async:
            yield "L7", node.lineno
    for node in source.each(ast.FormattedValue):
        if not isinstance(node.value, ast.Name) or node.conversion not in (-1, ord("r")) or node.format_spec:
            yield "L7", node.lineno
    for node in source.each(ast.BinOp, ast.AugAssign):
        if isinstance(node.op, ast.Pow):
            power = node.right if isinstance(node, ast.BinOp) else node.value
            if not (isinstance(power, ast.Constant) and isinstance(power.value, int) and 0 <= power.value <= 64):
                yield "L27", node.lineno
    for node in source.each(ast.Compare):
        sides = [node.left, *node.comparators]
        for place, sign in enumerate(node.ops):
            if isinstance(sign, (ast.Is, ast.IsNot)):
                pair = sides[place:place + 2]
                if not any(isinstance(one, ast.Constant) and one.value in (None, True, False) for one in pair):
                    yield "L20", node.lineno


def check_lambdas(source):
    seen = set()
    for node in source.each(ast.Lambda):
        key = (node.lineno, tuple(one.arg for one in node.args.args))
        if key in seen:
            yield "L13", node.lineno
        seen.add(key)


# Names


def bound_names(source):
    for node in source.nodes:
        if isinstance(node, ast.Name) and not isinstance(node.ctx, ast.Load):
            yield node.id, node
        elif isinstance(node, ast.arg):
            yield node.arg, node
        elif isinstance(node, (ast.FunctionDef, ast.ClassDef)):
            yield node.name, node
        elif isinstance(node, ast.ExceptHandler) and node.name:
            yield node.name, node
        elif isinstance(node, (ast.ImportFrom, ast.Import)):
            for alias in node.names:
                yield alias.asname or alias.name, node


def check_bound(source):
    for name, node in bound_names(source):
        method = isinstance(node, ast.FunctionDef) and isinstance(source.parents[node], ast.ClassDef)
        if name in ("__all__", "__version__") or (method and name in DUNDER_METHODS):
            continue
        if not re.fullmatch(r"[A-Za-z][A-Za-z0-9_]*", name):
            yield "L12", node.lineno
        if name in NOWHERE or (name in NOT_AS_NAMES and not method):
            yield "L17", node.lineno
        if name in BUILTIN_NAMES and not method:
            yield "L15", node.lineno
        local = isinstance(node, ast.arg) or (isinstance(node, ast.Name) and source.in_function(node))
        if local and (name in source.classes or name in source.imports):
            yield "L15", node.lineno
        if method and name in BUILTIN_ATTRIBUTES and name not in METHODS | {"add", "discard"}:
            yield "L26", node.lineno


def check_loaded(source):
    for node in source.each(ast.Name):
        if not isinstance(node.ctx, ast.Load):
            continue
        name = node.id
        if name == "__name__" and not source.is_main:
            yield "L17", node.lineno
        if name in NOWHERE | NOT_AS_NAMES or (name == "sys" and not source.is_main):
            yield "L17", node.lineno
        if node in source.notes:
            if name in BUILTIN_NAMES and name not in CALLED | ERRORS | ANNOTATION_NAMES:
                yield "L4", node.lineno
        elif name == "chr":
            yield "L27", node.lineno
        elif name == "print" and source.is_main:
            continue
        elif name in BUILTIN_NAMES:
            if name not in CALLED | ERRORS:
                yield "L8", node.lineno
            elif name in CALLED and not is_called_or_key(source, node):
                yield "L22", node.lineno
        if source.is_class(name) or name in ERRORS:
            if node not in source.notes and not is_class_use(source, node):
                yield "L18", node.lineno


def is_called_or_key(source, node):
    above = source.parents[node]
    if isinstance(above, ast.Call) and above.func is node:
        return True
    if isinstance(above, ast.keyword):
        return above.arg == "key" and node.id in KEY_NAMES
    return is_isinstance_kind(source, node) and node.id in ISINSTANCE_NAMES


def is_isinstance_kind(source, node):
    above = source.parents[node]
    if isinstance(above, ast.Tuple):
        node = above
        above = source.parents[node]
    return called_name(above) == "isinstance" and len(above.args) == 2 and above.args[1] is node


def is_class_use(source, node):
    above = source.parents[node]
    if isinstance(above, ast.Tuple) and isinstance(source.parents[above], ast.ExceptHandler):
        return True
    if isinstance(above, ast.Attribute):
        return above.attr == "__init__"
    called = isinstance(above, ast.Call) and above.func is node
    return called or isinstance(above, (ast.ClassDef, ast.ExceptHandler, ast.Raise)) or is_isinstance_kind(source, node)


def check_attributes(source):
    for node in source.each(ast.Attribute):
        name = node.attr
        if name in ("format", "format_map", "mro"):
            yield "L8", node.lineno
        if name in NOWHERE:
            yield "L17", node.lineno
        if source.is_main and isinstance(node.value, ast.Name) and node.value.id == "sys":
            continue
        if not re.fullmatch(r"[A-Za-z][A-Za-z0-9_]*", name) and name not in ("__init__", "__name__"):
            yield "L12", node.lineno
        if isinstance(node.ctx, ast.Store):
            if not isinstance(node.value, ast.Name) or node.value.id in source.top:
                yield "L18", node.lineno
            if name in BUILTIN_ATTRIBUTES | {"args"} and name not in OWN_VALUES:
                yield "L26", node.lineno
            continue
        above = source.parents[node]
        if isinstance(above, ast.Call) and above.func is node:
            if name in BUILTIN_ATTRIBUTES and name not in METHODS | {"add", "discard", "__init__"}:
                yield "L25", node.lineno
            if name in METHODS and above.keywords:
                yield "L22", node.lineno
        elif name in METHODS - OWN_VALUES and not (isinstance(above, ast.keyword) and above.arg == "key"):
            yield "L25", node.lineno


def check_calls(source):
    for node in source.each(ast.Call):
        name = called_name(node)
        if name not in CALLED | ERRORS:
            continue
        for word in node.keywords:
            if word.arg not in KEYWORDS.get(name, set()):
                yield "L22", node.lineno
            elif word.arg in ("reverse", "strict") and not isinstance(word.value, ast.Constant):
                yield "L22", node.lineno
        if name == "isinstance":
            kinds = node.args[-1].elts if isinstance(node.args[-1], ast.Tuple) else [node.args[-1]]
            if len(node.args) != 2 or not all(isinstance(kind, ast.Name) for kind in kinds):
                yield "L22", node.lineno


# Walks, sets and what stands at a file's top


def is_walk(node):
    if called_name(node) in ("zip", "enumerate", "reversed", "range"):
        return True
    return called_method(node) in ("items", "keys", "values")


def check_walks(source):
    for node in source.each(ast.Call):
        if is_walk(node):
            above = source.parents[node]
            walked = isinstance(above, (ast.For, ast.comprehension)) and above.iter is node
            within = called_name(above) in PLACES_OF_WALKS and node in above.args
            if within and called_name(above) in ("min", "max"):
                within = len(above.args) == 1
            elif within and called_name(above) not in ("zip",):
                within = above.args[0] is node
            joined = called_method(above) == "join" and isinstance(above.func.value, ast.Constant)
            if not (walked or within or joined):
                yield "L23", node.lineno
    for node in source.each(ast.For):
        names = walked_names(node.iter)
        for part in [inner for line in node.body for inner in ast.walk(line)]:
            if changed_name(part) in names:
                yield "L23", part.lineno


def walked_names(node):
    if isinstance(node, ast.Name):
        return {node.id}
    if called_name(node) in ("zip", "enumerate", "reversed"):
        return {name for part in node.args for name in walked_names(part)}
    if called_method(node) in ("items", "keys", "values"):
        return walked_names(node.func.value)
    return set()


def changed_name(node):
    if isinstance(node, ast.Subscript) and not isinstance(node.ctx, ast.Load) and isinstance(node.value, ast.Name):
        return node.value.id
    if called_method(node) in CHANGING and isinstance(node.func.value, ast.Name):
        return node.func.value.id
    return None


def check_sets(source):
    for node in source.each(ast.Set):
        if not source.in_function(node):
            yield "L7", node.lineno
        whole = [one for one in node.elts if isinstance(one, ast.Constant) and isinstance(one.value, int)]
        above = source.parents[node]
        if len(whole) > 2 and not (isinstance(above, ast.Compare) and isinstance(above.ops[-1], (ast.In, ast.NotIn))):
            yield "L13", node.lineno
    for node in source.each(ast.Call, ast.Set):
        if isinstance(node, ast.Set) or called_name(node) in ("set", "frozenset"):
            above = source.parents[node]
            while isinstance(above, ast.BinOp) and isinstance(above.op, (ast.Sub, ast.BitAnd, ast.BitOr, ast.BitXor)):
                above = source.parents[above]
            asked = isinstance(above, ast.Compare)
            counted = called_name(above) in ("sorted", "len") and not above.keywords
            if not asked and not counted:
                yield "L24", node.lineno


def check_kept(source):
    kept = {
        name
        for name, nodes in source.top.items()
        if isinstance(nodes[0], (ast.Assign, ast.AnnAssign)) and isinstance(nodes[0].value, (ast.List, ast.Dict))
    }
    for node in source.nodes:
        if changed_name(node) in kept:
            yield "L15", node.lineno
        elif isinstance(node, ast.Name) and isinstance(node.ctx, ast.Load) and node.id in kept:
            above = source.parents[node]
            read = isinstance(above, (ast.Subscript, ast.For, ast.comprehension, ast.Compare))
            read = read or (called_name(above) in CALLED) or (isinstance(above, ast.Attribute) and above.attr in READING)
            if not read:
                yield "L15", node.lineno


# Errors


def check_errors(source):
    for node in source.each(ast.Raise):
        if not isinstance(node.exc, ast.Call):
            yield "L19", node.lineno
        handlers = [one.name for one in source.above(node) if isinstance(one, ast.ExceptHandler)]
        cause = node.cause
        if isinstance(cause, ast.Name) and cause.id not in handlers:
            yield "L19", node.lineno
        elif isinstance(cause, ast.AST) and not isinstance(cause, (ast.Name, ast.Constant)):
            yield "L19", node.lineno
    for node in source.each(ast.Try):
        for handler in node.handlers:
            kind = handler.type
            parts = kind.elts if isinstance(kind, ast.Tuple) else [kind]
            names = [part.id if isinstance(part, ast.Name) else None for part in parts]
            if any(name in (None, "Exception", "BaseException", "TypeError") for name in names):
                yield "L19", handler.lineno
            if set(names) & {"ValueError", "LookupError"} and not is_narrow(node.body, {"int", "str", "index", "remove"}):
                yield "L19", handler.lineno
            elif "IndexError" in names and not is_narrow(node.body, set()):
                yield "L19", handler.lineno


def is_narrow(body, calls):
    out = (ast.Mult, ast.Pow, ast.Mod, ast.LShift, ast.RShift, ast.Slice, ast.Lambda, ast.JoinedStr)
    for node in [part for line in body for part in ast.walk(line)]:
        if isinstance(node, out):
            return False
        if isinstance(node, ast.Call) and (called_name(node) or called_method(node)) not in calls:
            return False
    return True


# The package as a whole


def check_draws(sources):
    by_name = {source.name[:-3]: source for source in sources}
    drawn = {}
    for name, source in by_name.items():
        drawn[name] = set()
        for node in source.each(ast.ImportFrom):
            if node.module and node.module.startswith(source.package + "."):
                other = node.module[len(source.package) + 1:]
                drawn[name] |= {other, "__init__"} - {name}
                known = by_name[other].top if other in by_name else {}
                for alias in node.names:
                    if alias.name not in known or isinstance(known[alias.name][0], ast.ImportFrom):
                        yield "L16", source.name, node.lineno
    for name in drawn:
        reached = set()
        waiting = list(drawn[name])
        while waiting:
            one = waiting.pop()
            if one not in reached:
                reached.add(one)
                waiting.extend(drawn.get(one, set()))
        if name in reached:
            yield "L16", name + ".py", 0
    if "__init__" in by_name and set(by_name["__init__"].top) & set(by_name):
        yield "L16", "__init__.py", 0


def check_methods_and_values(sources):
    methods = set()
    values = []
    for source in sources:
        for node in source.each(ast.ClassDef):
            methods |= {one.name for one in node.body if isinstance(one, ast.FunctionDef)}
        values += [(source.name, node) for node in source.each(ast.Attribute) if isinstance(node.ctx, ast.Store)]
    for name, node in values:
        if node.attr in methods:
            yield "L18", name, node.lineno


FILE_CHECKS = [
    check_size, check_tokens, check_imports, check_top, check_functions, check_classes, check_statements,
    check_values, check_lambdas, check_bound, check_loaded, check_attributes, check_calls, check_walks,
    check_sets, check_kept, check_errors,
]


def broken_rules(package, texts):
    """The rules that the files, a dict of texts by file names, leave: sorted (rule, file, line)."""
    sources = [Source(package, name, text) for name, text in texts.items()]
    found = {(rule, one.name, line) for one in sources for check in FILE_CHECKS for rule, line in check(one)}
    found |= set(check_draws(sources)) | set(check_methods_and_values(sources))
    return sorted(found)


def broken_in_folder(folder):
    folder = Path(folder)
    texts = {path.name: path.read_bytes().decode("utf-8") for path in sorted(folder.glob("*.py"))}
    return sorted(check_folder(folder)) + broken_rules(folder.name, texts)
