"""What of the rules L1 to L28 can be seen in the source files; faults are told as (rule, file, line)."""

import ast
import builtins
import os
import re

LIBRARY = {
    "heapq": {"heappush", "heappop", "heapify", "heapreplace", "heappushpop"},
    "math": {"gcd", "lcm", "isqrt", "comb", "perm", "factorial"},
    "itertools": {"product", "combinations", "permutations"},
}
BUILTINS = set(
    "len range enumerate zip min max sum abs sorted reversed int str bool bytes list tuple dict set frozenset "
    "isinstance ord repr any all divmod iter next map super property staticmethod classmethod "
    "Exception ValueError TypeError KeyError IndexError LookupError ZeroDivisionError ArithmeticError "
    "OverflowError RuntimeError NotImplementedError AttributeError StopIteration NotImplemented".split())
# Whoever shows values in an interactive way binds _ there.
TAKEN = set(dir(builtins)) - {"_"}
METHODS = set(
    "append clear copy count endswith extend find get index insert isalnum isalpha isdigit islower isspace "
    "isupper items join keys ljust lower lstrip partition pop remove replace reverse rfind rjust rpartition "
    "rsplit rstrip setdefault split splitlines startswith strip update upper values zfill bit_length title "
    "capitalize swapcase casefold center expandtabs removeprefix removesuffix rindex isascii isdecimal "
    "isnumeric istitle isidentifier isprintable translate add discard".split())
VALUE_NAMES = {name for kind in (str, int, list, dict, set, bytes, tuple) for name in vars(kind)}
WORDS = ("type typing typing_extensions enum Enum IntEnum StrEnum Flag IntFlag Generic Protocol ABC ABCMeta "
         "namedtuple NamedTuple TypedDict TYPE_CHECKING abstractmethod").split()
UNUSED = set("register mro elements open input law version_info with_traceback add_note attrgetter breakpoint "
             "builtins compile copyright credits delattr dir eval exec exit gc getattr globals hasattr help id "
             "importlib license locals methodcaller os quit setattr super type vars sys".split())
SPECIAL = {"__init__", "__eq__", "__len__"}
LAZY = {"zip", "enumerate", "reversed", "items", "keys", "values", "map"}
KEYWORDS = {"sorted": {"key", "reverse"}, "min": {"key", "default"}, "max": {"key", "default"},
            "sum": {"start"}, "enumerate": {"start"}, "zip": {"strict"}}
# Names that begin so, or are just so, are those of other programs.
BARRED_STARTS = re.compile("_wall|_pe_|_dcw_|_enum_|_cm_|_twin_re_|_lay_|_law_|_stub_|_sre|_WallAttr")
BARRED_NAMES = re.compile("(_cold|_tuplegetter|_outside|_record|_written_out|_member_names)[0-9_]*")
STATEMENTS = (
    ast.Assign, ast.AugAssign, ast.AnnAssign, ast.If, ast.While, ast.For, ast.Return, ast.Break, ast.Continue,
    ast.Pass, ast.Raise, ast.Assert, ast.Delete, ast.Nonlocal, ast.Match, ast.With, ast.Expr, ast.Try,
    ast.FunctionDef, ast.ClassDef, ast.ImportFrom)


class Source:
    """One file: its text, its tree, and the parent of each node."""

    def __init__(self, folder, name):
        self.name = name
        with open(os.path.join(folder, name), encoding="utf-8") as file:
            self.text = file.read()
        self.tree = ast.parse(self.text)
        self.parents = {}
        for node in ast.walk(self.tree):
            for child in ast.iter_child_nodes(node):
                self.parents[child] = node
        self.nodes = list(ast.walk(self.tree))

    def of(self, *kinds):
        return [node for node in self.nodes if isinstance(node, kinds)]

    def defined(self):
        return {node.name for node in self.tree.body if isinstance(node, (ast.FunctionDef, ast.ClassDef))} | {
            node.targets[0].id for node in self.tree.body if isinstance(node, ast.Assign)}

    def imports(self):
        return [(node, alias) for node in self.of(ast.ImportFrom) for alias in node.names]


def read_package(folder):
    names = sorted(name for name in os.listdir(folder) if name != "__pycache__")
    return [Source(folder, name) for name in names if name.endswith(".py")], names


def called_name(node):
    if isinstance(node.func, ast.Name):
        return node.func.id
    return node.func.attr if isinstance(node.func, ast.Attribute) else ""


def faults_of(folder):
    sources, names = read_package(folder)
    faults = [("L1", name, 0) for name in names if not re.fullmatch(r"[a-z0-9_]+\.py", name)]
    known = {f"{os.path.basename(folder)}.{source.name[:-3]}": source for source in sources}
    methods = {node.name for source in sources for node in source.of(ast.FunctionDef)
               if isinstance(source.parents[node], ast.ClassDef)}
    assigned = {node.attr for source in sources for node in source.of(ast.Attribute)
                if isinstance(node.ctx, ast.Store)}
    for source in sources:
        for check in (text_faults, import_faults, size_faults, level_faults, name_faults, statement_faults,
                      expression_faults, call_faults, set_faults, lazy_faults, loop_faults, lambda_faults,
                      nested_faults, plain_name_faults):
            for rule, line in check(source, known):
                faults.append((rule, source.name, line))
        for node in source.of(ast.Attribute):
            is_call = isinstance(source.parents[node], ast.Call) and source.parents[node].func is node
            if is_call and node.attr not in METHODS | methods:
                faults.append(("L25", source.name, node.lineno))
            if not is_call and node.attr not in assigned:
                faults.append(("L18", source.name, node.lineno))
    faults += [("L26", name, 0) for name in sorted((methods | assigned) & VALUE_NAMES - SPECIAL)
               if name not in METHODS]
    faults += [("L18", name, 0) for name in sorted(methods & assigned)]
    return faults + ring_faults(known)


def text_faults(source, known):
    for number, line in enumerate(source.text.split("\n"), 1):
        if len(line) > 120:
            yield "L10", number
        if not all(" " <= sign <= "~" for sign in line):
            yield "L14", number
        code = line.split("#")[0]
        if any(re.search(rf"\b{word}\b", code) for word in WORDS):
            yield "L17", number
        if re.search("dataclass|overload|contextmanager|_wall|_WallAttr", line):
            yield "L17", number
    for node in source.of(ast.Constant):
        if isinstance(node.value, str) and ("%" in node.value or "__" in node.value):
            yield "L27", node.lineno
        if isinstance(node.value, (float, complex)):
            yield "L7", node.lineno


def import_faults(source, known):
    if source.of(ast.Import):
        yield "L16", 1
    for node, alias in source.imports():
        if node.level or alias.asname:
            yield "L16", node.lineno
        elif node.module in LIBRARY:
            if alias.name not in LIBRARY[node.module]:
                yield "L2", node.lineno
        elif node.module not in known or alias.name not in known[node.module].defined():
            yield "L16", node.lineno
        if alias.name not in {name.id for name in source.of(ast.Name)}:
            yield "not used", node.lineno


def ring_faults(known):
    needs = {name: {node.module for node, _ in source.imports() if node.module in known}
             for name, source in known.items()}
    while needs:
        free = [name for name in needs if not needs[name] & set(needs)]
        if not free:
            return [("L16", name, 0) for name in needs]
        for name in free:
            del needs[name]
    return []


def size_faults(source, known):
    if len(source.text.split("\n")) > 400:
        yield "L10", 400
    for node in source.of(ast.FunctionDef):
        if node.end_lineno - node.lineno + 1 > 40:
            yield "L10", node.lineno


def level_faults(source, known):
    for at, node in enumerate(source.tree.body):
        is_text = isinstance(node, ast.Expr) and isinstance(node.value, ast.Constant) and at == 0
        is_value = isinstance(node, ast.Assign) and len(node.targets) == 1 and isinstance(node.targets[0], ast.Name)
        if not (is_text or is_value or isinstance(node, (ast.FunctionDef, ast.ClassDef, ast.ImportFrom))):
            yield "L3", node.lineno
    for node in source.of(ast.ClassDef):
        if node.decorator_list or not isinstance(source.parents[node], ast.Module):
            yield "L5", node.lineno


def name_faults(source, known):
    imported = [alias.name for _, alias in source.imports()]
    classes = [node.name for node in source.of(ast.ClassDef)]
    level = imported + [node.name for node in source.tree.body if isinstance(node, (ast.FunctionDef, ast.ClassDef))]
    if len(level) != len(set(level)):
        yield "L15", 1
    for node in source.of(ast.Name, ast.arg, ast.FunctionDef, ast.ClassDef):
        name = getattr(node, "id", None) or getattr(node, "arg", None) or getattr(node, "name", None)
        is_method = isinstance(node, ast.FunctionDef) and isinstance(source.parents[node], ast.ClassDef)
        is_level = source.parents[node] is source.tree
        is_bound = not isinstance(node, ast.Name) or isinstance(node.ctx, ast.Store)
        if is_bound and not is_method and (name in TAKEN or name in UNUSED):
            yield "L15", node.lineno
        if is_bound and not is_method and not is_level and name in imported + classes:
            yield "L15", node.lineno
        if isinstance(node, ast.Name) and isinstance(node.ctx, ast.Load):
            if name in TAKEN and name not in BUILTINS:
                yield "L8", node.lineno
            if name == "_":
                yield "L12", node.lineno


def plain_name_faults(source, known):
    """Names of ASCII letters, figures and _, with at most one _ ahead; those of classes begin with a letter."""
    told = [(node, node.name) for node in source.of(ast.ClassDef, ast.FunctionDef)]
    told += [(node, node.id) for node in source.of(ast.Name)] + [(node, node.arg) for node in source.of(ast.arg)]
    told += [(node, node.attr) for node in source.of(ast.Attribute)]
    told += [(node, alias.name) for node, alias in source.imports()]
    told += [(node, node.arg) for node in source.of(ast.keyword) if node.arg is not None]
    for node, name in told:
        is_plain = name == "_" or re.fullmatch("_?[A-Za-z][A-Za-z0-9_]*", name) or name in SPECIAL
        if not is_plain or BARRED_STARTS.match(name) or BARRED_NAMES.fullmatch(name):
            yield "L12", node.lineno
        if isinstance(node, ast.ClassDef) and not name[0].isalpha():
            yield "L12", node.lineno


def is_static(node):
    return [ast.unparse(one) for one in node.decorator_list] == ["staticmethod"]


def statement_faults(source, known):
    for node in source.of(ast.stmt):
        if not isinstance(node, STATEMENTS):
            yield "L6", node.lineno
    for node in source.of(ast.FunctionDef):
        if not is_static(node) and node.decorator_list or node.args.vararg or node.args.kwarg or node.returns:
            yield "L4", node.lineno
        for value in node.args.defaults + [one for one in node.args.kw_defaults if one is not None]:
            if not isinstance(value, ast.Constant) and ast.unparse(value) != "()" and not (isinstance(value, ast.Name) and value.id.isupper()):
                yield "L4", node.lineno
    for node in source.of(ast.ExceptHandler):
        caught = node.type.elts if isinstance(node.type, ast.Tuple) else [node.type]
        if not all(isinstance(one, ast.Name) and one.id not in TAKEN - {"KeyError"} for one in caught):
            yield "L19", node.lineno
    for node in source.of(ast.Raise):
        is_made = isinstance(node.exc, ast.Call) and isinstance(node.exc.func, ast.Name)
        if node.exc is not None and not is_made:
            yield "L19", node.lineno
    for node in source.of(ast.Yield):
        if not isinstance(source.parents[node], ast.Expr):
            yield "L23", node.lineno


def expression_faults(source, known):
    for node in source.of(ast.BinOp):
        if isinstance(node.op, (ast.Div, ast.MatMult, ast.Pow)):
            yield "L7", node.lineno
    for node in source.of(ast.Compare):
        for operator, side in zip(node.ops, node.comparators):
            if isinstance(operator, (ast.Is, ast.IsNot)):
                if not (isinstance(side, ast.Constant) and side.value in (None, True, False)):
                    yield "L20", node.lineno
    for node in source.of(ast.GeneratorExp):
        parent = source.parents[node]
        if not (isinstance(parent, ast.Call) and called_name(parent) in ("list", "tuple", "dict", "join")):
            yield "L7", node.lineno
    for node in source.of(ast.Await, ast.AsyncFor, ast.NamedExpr, ast.Starred, ast.JoinedStr):
        if isinstance(node, ast.JoinedStr):
            for part in node.values:
                inner = part.value if isinstance(part, ast.FormattedValue) else None
                if inner is not None and any(isinstance(one, (ast.Constant, ast.JoinedStr)) for one in ast.walk(inner)):
                    yield "L27", node.lineno
        else:
            yield "L7", node.lineno


def call_faults(source, known):
    for node in source.of(ast.Call):
        name = called_name(node)
        told = {keyword.arg for keyword in node.keywords}
        if isinstance(node.func, ast.Name) and name in TAKEN and told - KEYWORDS.get(name, set()):
            yield "L22", node.lineno
        if isinstance(node.func, ast.Attribute) and name in METHODS and (told or name == "sort"):
            yield "L25", node.lineno
        if not isinstance(node.func, (ast.Name, ast.Attribute)):
            yield "L7", node.lineno
        if any(isinstance(one, ast.Name) and one.id in BUILTINS - {"None"} for one in node.args) \
                and name != "isinstance":
            yield "L22", node.lineno


def set_faults(source, known):
    for node in source.nodes:
        is_set = isinstance(node, (ast.Set, ast.SetComp))
        if not is_set and not (isinstance(node, ast.Call) and called_name(node) in ("set", "frozenset")):
            continue
        parent = source.parents[node]
        is_let = isinstance(parent, ast.Call) and called_name(parent) in ("sorted", "len") and not parent.keywords
        if not is_let and not isinstance(parent, ast.Compare):
            yield "L24", node.lineno


def lazy_faults(source, known):
    """Zips, ranges, views and calls of generators are iterated where they stand; a range may be kept."""
    generators = {node.name for node in source.of(ast.FunctionDef)
                  if any(isinstance(one, (ast.Yield, ast.YieldFrom)) for one in ast.walk(node))}
    for node in source.of(ast.Call):
        name = called_name(node)
        if name not in LAZY | generators | {"range"}:
            continue
        parent = source.parents[node]
        is_looped = isinstance(parent, (ast.For, ast.comprehension)) and parent.iter is node
        is_taken = isinstance(parent, ast.Call) and called_name(parent) in (
            "list", "tuple", "dict", "sorted", "sum", "enumerate", "zip", "min", "max", "reversed", "join",
            "combinations", "permutations", "product")
        is_kept = name == "range" and isinstance(parent, ast.Assign)
        if not (is_looped or is_taken or is_kept):
            yield "L23", node.lineno
    for loop in source.of(ast.For):
        if isinstance(loop.iter, ast.Name):
            for node in ast.walk(loop):
                if isinstance(node, ast.Call) and isinstance(node.func, ast.Attribute):
                    changes = node.func.attr in ("append", "extend", "pop", "remove", "insert", "clear", "update")
                    if changes and isinstance(node.func.value, ast.Name) and node.func.value.id == loop.iter.id:
                        yield "L23", node.lineno


def root_of(node):
    """The name at the root of an attribute, an item or a call of a method, None if there is none."""
    while isinstance(node, (ast.Attribute, ast.Subscript, ast.Call)):
        node = node.func if isinstance(node, ast.Call) else node.value
    return ast.unparse(node) if isinstance(node, ast.Name) else None


def loop_faults(source, known):
    """What a loop goes over is not assigned to by items in the loop."""
    for loop in source.of(ast.For):
        over = {root_of(node) for node in ast.walk(loop.iter)} - {None, "self", "list", "tuple", "sorted"}
        for row in loop.body:
            for node in ast.walk(row):
                is_item = isinstance(node, ast.Subscript) and isinstance(node.ctx, (ast.Store, ast.Del))
                if is_item and root_of(node) in over:
                    yield "L23", node.lineno


def lambda_faults(source, known):
    """No two lambdas with the same parameters begin on one line."""
    seen = set()
    for node in source.of(ast.Lambda):
        key = (node.lineno, ast.unparse(node.args))
        if key in seen:
            yield "L13", node.lineno
        seen.add(key)


def assigned_in(function):
    """The names that a function binds itself: parameters, targets, and loops, but not those of comprehensions."""
    found = {one.arg for one in ast.walk(function.args) if isinstance(one, ast.arg)}
    inner = [node for node in ast.walk(function)
             if isinstance(node, (ast.FunctionDef, ast.Lambda, ast.ListComp, ast.SetComp, ast.DictComp, ast.GeneratorExp))
             and node is not function]
    hidden = {id(one) for node in inner for one in ast.walk(node)}
    return found | {node.id for node in ast.walk(function)
                    if isinstance(node, ast.Name) and isinstance(node.ctx, ast.Store) and id(node) not in hidden}


def nested_faults(source, known):
    """In a nested function no comprehension binds a name that the function around it binds."""
    for function in source.of(ast.FunctionDef):
        outer = assigned_in(function)
        for inner in ast.walk(function):
            if isinstance(inner, (ast.FunctionDef, ast.Lambda)) and inner is not function:
                for node in ast.walk(inner):
                    if isinstance(node, ast.comprehension):
                        names = {one.id for one in ast.walk(node.target) if isinstance(one, ast.Name)}
                        if names & outer:
                            yield "L7", inner.lineno
