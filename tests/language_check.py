"""Checks files of a package against those rules of LANGUAGE.md that a script can see.

Where a rule allows more than this program needs, the check is narrower than the rule: it bars generators, generator
expressions, bytes, `match`, `with`, f-string formats and the like altogether.
"""

import ast
import builtins
import io
import os
import re
import tokenize
import warnings

LIBRARY = {
    "math": {"gcd", "lcm", "isqrt", "comb", "perm", "factorial"},
    "heapq": {"heappush", "heappop", "heapify", "heapreplace", "heappushpop"},
    "itertools": {"product", "combinations", "permutations"},
}
# Where examples were run ahead, Python itself has put a "_" among them.
BUILTIN_NAMES = set(dir(builtins)) - {"_"}
ALLOWED_BUILTINS = set("""
    len range enumerate zip min max sum abs sorted reversed int str bool list tuple dict set isinstance ord repr any
    all divmod Exception ValueError TypeError KeyError IndexError LookupError ZeroDivisionError ArithmeticError
    OverflowError RuntimeError NotImplementedError AttributeError object
""".split())
ARGUMENTS = {
    "len": (1, 1), "range": (1, 3), "enumerate": (1, 2), "zip": (1, 99), "min": (1, 99), "max": (1, 99),
    "sum": (1, 2), "abs": (1, 1), "sorted": (1, 1), "reversed": (1, 1), "int": (0, 2), "str": (0, 1), "bool": (0, 1),
    "list": (0, 1), "tuple": (0, 1), "dict": (0, 1), "set": (0, 1), "isinstance": (2, 2), "ord": (1, 1),
    "repr": (1, 1), "any": (1, 1), "all": (1, 1), "divmod": (2, 2),
}
BUILTIN_KEYWORDS = {
    "sorted": {"key", "reverse"}, "min": {"key", "default"}, "max": {"key", "default"}, "sum": {"start"},
    "enumerate": {"start"}, "zip": {"strict"},
}
METHODS = set("""
    append clear copy count endswith extend find get index insert isalnum isalpha isdigit islower isspace isupper
    items join keys ljust lower lstrip partition pop remove replace reverse rfind rjust rpartition rsplit rstrip
    setdefault split splitlines startswith strip update upper values zfill bit_length title capitalize swapcase
    casefold center expandtabs removeprefix removesuffix rindex isascii isdecimal isnumeric istitle isidentifier
    isprintable
""".split())
OBJECT_METHODS = {
    name for kind in (str, int, list, dict, set, tuple, bytes) for name in dir(kind) if not name.startswith("__")
}
OWN_METHODS = set("""
    add discard append clear copy count endswith extend find get index insert isalnum isalpha isdigit islower isspace
    isupper items join keys ljust lower lstrip partition pop remove replace reverse rfind rjust rpartition rsplit
    rstrip setdefault split splitlines startswith strip update upper values zfill bit_length
""".split())
OWN_ATTRIBUTES = set("count index title find get join lower upper split strip copy add".split())
DUNDERS = set("__init__ __eq__ __repr__ __str__ __len__".split())
NEVER = set("register mro elements open input law version_info with_traceback add_note".split())
NEVER_NAMES = set("""
    attrgetter breakpoint builtins compile copyright credits delattr dir eval exec exit gc getattr globals hasattr help
    id importlib license locals methodcaller os quit setattr super type vars sys __name__
""".split())
NEVER_WORDS = set("""
    type typing typing_extensions enum Enum IntEnum StrEnum Flag IntFlag Generic Protocol ABC ABCMeta namedtuple
    NamedTuple TypedDict TYPE_CHECKING abstractmethod
""".split())
NEVER_INSIDE = ("dataclass", "overload", "contextmanager")
FRAME_WORDS = re.compile(r"^(f|tb|co|gi|cr|ag)_[a-z]+$")
NEVER_BEGIN = ("_wall", "_pe_", "_dcw_", "_enum_", "_cm_", "_twin_re_", "_lay_", "_law_", "_stub_", "_sre", "_WallAttr")
NEVER_WHOLE = re.compile(r"^(_cold|_tuplegetter|_outside|_record|_written_out|_member_names)[0-9_]*$")
FILE_WORDS = {"test", "tests", "testing", "site", "conftest", "sitecustomize", "usercustomize"}
STATEMENTS = (
    ast.Assign, ast.AugAssign, ast.If, ast.While, ast.For, ast.Return, ast.Break, ast.Continue, ast.Pass, ast.Raise,
    ast.Assert, ast.Delete, ast.Try, ast.Expr, ast.FunctionDef, ast.ClassDef, ast.ImportFrom,
)
BARRED = (
    ast.Global, ast.Nonlocal, ast.AsyncFunctionDef, ast.With, ast.Match, ast.Yield, ast.YieldFrom, ast.Await,
    ast.AnnAssign, ast.NamedExpr, ast.GeneratorExp, ast.Import, ast.AsyncFor, ast.AsyncWith,
)
VIEWS = {"items", "keys", "values"}
RUNS = {"zip", "enumerate", "reversed", "range"}
TAKERS = {"list", "tuple", "dict", "sorted", "sum", "any", "all", "enumerate", "zip", "min", "max"}
CHANGING = {"append", "clear", "extend", "insert", "pop", "remove", "reverse", "setdefault", "update", "sort"}


class Code:
    """One file of the package, read."""

    def __init__(self, path, text):
        self.path = path
        self.text = text
        self.lines = text.split("\n")
        with warnings.catch_warnings():
            warnings.simplefilter("ignore")
            self.tree = ast.parse(text)
        self.parents = {}
        for node in ast.walk(self.tree):
            for child in ast.iter_child_nodes(node):
                self.parents[child] = node

    @property
    def module(self):
        return os.path.basename(self.path)[:-3]

    def above(self, node):
        """All nodes around a node, the nearest one first."""
        while node in self.parents:
            node = self.parents[node]
            yield node

    def function_around(self, node):
        for one in self.above(node):
            if isinstance(one, (ast.FunctionDef, ast.Lambda)):
                return one
        return None


class Package:
    """All files of a package, and what they define."""

    def __init__(self, name, files):
        self.name = name
        self.codes = [Code(path, text) for path, text in files]
        self.found = []
        self.classes = {}
        self.functions = {}
        self.methods = {}
        self.attributes = set()
        for code in self.codes:
            for node in code.tree.body:
                if isinstance(node, ast.ClassDef):
                    self.classes[node.name] = node
                if isinstance(node, ast.FunctionDef):
                    self.functions[(code.module, node.name)] = node
        for node in self.classes.values():
            for one in node.body:
                if isinstance(one, ast.FunctionDef):
                    self.methods.setdefault(one.name, []).append(one)
        for code in self.codes:
            for node in ast.walk(code.tree):
                if isinstance(node, ast.Attribute) and isinstance(node.ctx, ast.Store):
                    self.attributes.add(node.attr)

    def wrong(self, rule, code, line, why):
        self.found.append((rule, os.path.basename(code.path), line, why))

    def check(self):
        for code in self.codes:
            for check in CHECKS:
                check(self, code)
        check_rings(self)
        check_strings_together(self)
        return sorted(set(self.found))


def stored_names(code):
    """All (name, node) that a file binds: functions, classes, parameters, variables, imports, caught errors."""
    for node in ast.walk(code.tree):
        if isinstance(node, (ast.FunctionDef, ast.ClassDef)):
            yield node.name, node
        elif isinstance(node, ast.arg):
            yield node.arg, node
        elif isinstance(node, ast.Name) and isinstance(node.ctx, (ast.Store, ast.Del)):
            yield node.id, node
        elif isinstance(node, ast.alias):
            yield node.asname or node.name, node
        elif isinstance(node, ast.ExceptHandler) and node.name:
            yield node.name, node


def imported_names(code):
    return {
        alias.asname or alias.name: node
        for node in code.tree.body if isinstance(node, ast.ImportFrom) for alias in node.names
    }


def module_names(code):
    """The names that a file binds at its module level, imports left out."""
    names = {}
    for node in code.tree.body:
        if isinstance(node, (ast.FunctionDef, ast.ClassDef)):
            names[node.name] = node
        elif isinstance(node, ast.Assign):
            for target in node.targets:
                if isinstance(target, ast.Name):
                    names[target.id] = node
    return names


def line_of(node):
    return getattr(node, "lineno", 1)


def is_docstring(code, node):
    """Whether a string constant is a docstring."""
    expr = code.parents.get(node)
    if not isinstance(expr, ast.Expr) or not isinstance(node, ast.Constant) or not isinstance(node.value, str):
        return False
    owner = code.parents.get(expr)
    return isinstance(owner, (ast.Module, ast.FunctionDef, ast.ClassDef)) and owner.body[0] is expr


def check_files(package, code):
    name = os.path.basename(code.path)
    if not re.match(r"^[A-Za-z0-9_]+\.py$", name):
        package.wrong("L1", code, 1, "the name of the file")
    stem = name[:-3]
    if name != name.lower() or stem in FILE_WORDS or stem.startswith(("law_", "test_")) or stem in BUILTIN_NAMES:
        package.wrong("L14", code, 1, "the name of the file")
    if stem in NEVER or stem in NEVER_WORDS:
        package.wrong("L14", code, 1, "the name of the file")
    for at, line in enumerate(code.lines, 1):
        if any(not " " <= letter <= "~" for letter in line):
            package.wrong("L14", code, at, "a character that is not from the space to the tilde")


def check_sizes(package, code):
    many = len(code.lines) - (1 if code.text.endswith("\n") else 0)
    if many > 399:
        package.wrong("L10", code, many, "a file of %d lines" % many)
    for at, line in enumerate(code.lines, 1):
        if len(line) > 120 or "\t" in line:
            package.wrong("L10", code, at, "a line of %d characters, or a tab" % len(line))
    for node in ast.walk(code.tree):
        if isinstance(node, ast.FunctionDef) and node.end_lineno - node.lineno + 1 > 40:
            package.wrong("L10", code, node.lineno, "a function of more than 40 lines")


def check_imports(package, code):
    begun = False
    modules = {one.module for one in package.codes}
    for at, node in enumerate(code.tree.body):
        if isinstance(node, ast.ImportFrom):
            if begun:
                package.wrong("L2", code, node.lineno, "an import that does not stand at the top")
            check_one_import(package, code, node, modules)
        elif not (at == 0 and isinstance(node, ast.Expr)):
            begun = True
    for node in ast.walk(code.tree):
        if isinstance(node, ast.Import):
            package.wrong("L2", code, node.lineno, "an import without from")
        if isinstance(node, ast.ImportFrom) and code.parents[node] is not code.tree:
            package.wrong("L2", code, node.lineno, "an import inside of something")


def check_one_import(package, code, node, modules):
    names = [alias.name for alias in node.names]
    if node.level or "*" in names or any(alias.asname for alias in node.names):
        package.wrong("L2", code, node.lineno, "an import with a dot ahead, a star or another name")
    elif node.module in LIBRARY:
        if not set(names) <= LIBRARY[node.module]:
            package.wrong("L2", code, node.lineno, "an import of what the library may not give")
    elif not str(node.module).startswith(package.name + "."):
        package.wrong("L2", code, node.lineno, "an import from outside of the package")
    else:
        home = node.module[len(package.name) + 1:]
        for one in package.codes:
            if one.module == home and not set(names) <= set(module_names(one)):
                package.wrong("L16", code, node.lineno, "a name that is not defined in that file")
        if home not in modules or home == "__main__":
            package.wrong("L16", code, node.lineno, "no such file")


def check_library(package, code):
    names = {
        alias.name for node in code.tree.body if isinstance(node, ast.ImportFrom) and node.module in LIBRARY
        for alias in node.names
    }
    for node in ast.walk(code.tree):
        if isinstance(node, ast.Name) and node.id in names:
            call = code.parents[node]
            called = isinstance(call, ast.Call) and call.func is node and not call.keywords
            if not called or code.function_around(node) is None:
                package.wrong("L2", code, node.lineno, "a name of the library that is not plainly called")
    for name, node in stored_names(code):
        if name in names and not isinstance(node, ast.alias):
            package.wrong("L2", code, line_of(node), "a name of the library that is bound again")


def is_plain(node):
    """Whether an expression at module level is a plain value."""
    if isinstance(node, ast.Constant):
        return isinstance(node.value, (int, str, bytes, type(None)))
    if isinstance(node, (ast.Tuple, ast.List)):
        return all(is_plain(one) for one in node.elts)
    if isinstance(node, ast.Dict):
        return all(one is not None and is_plain(one) for one in node.keys + node.values)
    if isinstance(node, ast.BinOp):
        return is_plain(node.left) and is_plain(node.right)
    if isinstance(node, ast.UnaryOp):
        return is_plain(node.operand)
    return isinstance(node, ast.Name)


def check_module_level(package, code):
    seen = set(imported_names(code))
    for at, node in enumerate(code.tree.body):
        names = []
        if isinstance(node, ast.Expr):
            if at or not is_docstring(code, node.value):
                package.wrong("L3", code, node.lineno, "an expression at module level")
        elif isinstance(node, ast.Assign):
            names = [target.id for target in node.targets if isinstance(target, ast.Name)]
            if len(node.targets) != 1 or not names or not is_plain(node.value):
                package.wrong("L3", code, node.lineno, "no plain value for one name")
            check_nested_table(package, code, node)
        elif isinstance(node, (ast.FunctionDef, ast.ClassDef)):
            names = [node.name]
        elif not isinstance(node, (ast.ImportFrom, ast.Import)):
            package.wrong("L3", code, node.lineno, "a statement at module level")
        for name in names:
            if name in seen:
                package.wrong("L15", code, node.lineno, "a name that is bound twice: " + name)
            seen.add(name)
    every = [alias.name for node in code.tree.body if isinstance(node, ast.ImportFrom) for alias in node.names]
    if len(every) != len(set(every)):
        package.wrong("L15", code, 1, "a name that is imported twice")


def check_nested_table(package, code, node):
    if isinstance(node.value, (ast.List, ast.Tuple, ast.Dict)):
        for one in ast.walk(node.value):
            if one is not node.value and isinstance(one, (ast.List, ast.Dict)):
                package.wrong("L15", code, node.lineno, "a list or a dict inside of something at module level")


def check_functions(package, code):
    for node in ast.walk(code.tree):
        if isinstance(node, (ast.FunctionDef, ast.ClassDef)):
            for one in node.decorator_list:
                package.wrong("L4", code, one.lineno, "a decorator")
        if isinstance(node, (ast.FunctionDef, ast.Lambda)):
            for one in node.args.defaults + [one for one in node.args.kw_defaults if one is not None]:
                if isinstance(one, (ast.List, ast.Dict)) or not is_plain(one) or isinstance(one, ast.Name):
                    package.wrong("L4", code, one.lineno, "a default value that is not plain")
            for one in node.args.args + node.args.kwonlyargs:
                if one.annotation is not None:
                    package.wrong("L21", code, one.lineno, "an annotation")
    for node in ast.walk(code.tree):
        if isinstance(node, ast.ClassDef):
            check_class(package, code, node)


def check_class(package, code, node):
    if code.parents[node] is not code.tree:
        package.wrong("L15", code, node.lineno, "a class that is not at module level")
    for base in node.bases:
        known = isinstance(base, ast.Name) and (base.id in package.classes or base.id in ("Exception", "KeyError"))
        if not known:
            package.wrong("L5", code, node.lineno, "a base class that is none")
    seen = set()
    for one in node.body:
        if isinstance(one, ast.FunctionDef):
            if one.name in seen:
                package.wrong("L18", code, one.lineno, "a method that is defined twice")
            seen.add(one.name)
            if one.name.startswith("__"):
                check_dunder(package, code, one)
            elif one.name in OBJECT_METHODS and one.name not in OWN_METHODS:
                package.wrong("L26", code, one.lineno, "a method called " + one.name)
        elif not (isinstance(one, ast.Expr) and is_docstring(code, one.value)):
            package.wrong("L5", code, one.lineno, "no method in a class")
    for one in ast.walk(node):
        if isinstance(one, ast.Attribute) and isinstance(one.ctx, ast.Store) and one.attr in seen:
            package.wrong("L18", code, one.lineno, "a name that is a method and an attribute")


def check_dunder(package, code, node):
    if node.name not in DUNDERS:
        package.wrong("L5", code, node.lineno, "a method called " + node.name)
    for one in ast.walk(node):
        if node.name == "__init__" and isinstance(one, ast.Return):
            package.wrong("L28", code, one.lineno, "a return in __init__")
        if node.name != "__init__" and isinstance(one, (ast.Assign, ast.AugAssign, ast.Delete)):
            package.wrong("L28", code, one.lineno, "an assignment in " + node.name)
    if node.name in ("__repr__", "__str__", "__len__") and not isinstance(node.body[-1], ast.Return):
        package.wrong("L28", code, node.lineno, node.name + " does not end with a return")


def check_statements(package, code):
    for node in ast.walk(code.tree):
        if isinstance(node, BARRED):
            rule = "L7" if isinstance(node, (ast.NamedExpr, ast.GeneratorExp)) else "L6"
            package.wrong(rule, code, node.lineno, "not used here: " + node.__class__.__name__)
        elif isinstance(node, ast.stmt) and not isinstance(node, STATEMENTS):
            package.wrong("L6", code, node.lineno, "a statement: " + node.__class__.__name__)
        if isinstance(node, (ast.ListComp, ast.SetComp, ast.DictComp)) and code.function_around(node) is None:
            package.wrong("L7", code, node.lineno, "a comprehension outside of functions")
        if isinstance(node, (ast.Assert, ast.Delete)) and code.function_around(node) is None:
            package.wrong("L6", code, node.lineno, "outside of functions")
        if isinstance(node, ast.Try):
            check_try(package, code, node)
        if isinstance(node, ast.Raise):
            check_raise(package, code, node)
        if isinstance(node, ast.Compare):
            check_is(package, code, node)


def check_try(package, code, node):
    for handler in node.handlers:
        caught = handler.type.elts if isinstance(handler.type, ast.Tuple) else [handler.type]
        for one in caught:
            own = isinstance(one, ast.Name) and (one.id in package.classes or one.id in ("KeyError", "ZeroDivisionError"))
            if not own:
                package.wrong("L19", code, handler.lineno, "an error that is not caught here")
    if node.finalbody:
        package.wrong("L6", code, node.lineno, "a finally, not used here")


def check_raise(package, code, node):
    if node.exc is None:
        inside = any(isinstance(one, ast.ExceptHandler) for one in code.above(node))
        if not inside:
            package.wrong("L19", code, node.lineno, "a bare raise outside of a handler")
    elif not (isinstance(node.exc, ast.Call) and isinstance(node.exc.func, ast.Name)):
        package.wrong("L19", code, node.lineno, "a raise that does not create its error")


def check_is(package, code, node):
    sides = [node.left] + node.comparators
    for at, sign in enumerate(node.ops):
        if isinstance(sign, (ast.Is, ast.IsNot)):
            plain = [isinstance(one, ast.Constant) and one.value in (None, True, False) for one in sides[at:at + 2]]
            if not any(plain):
                package.wrong("L20", code, node.lineno, "is, with neither None nor True nor False")


def check_values(package, code):
    for node in ast.walk(code.tree):
        if isinstance(node, ast.Constant):
            if isinstance(node.value, (float, complex, bytes)) or node.value is Ellipsis:
                package.wrong("L7", code, node.lineno, "a value of this kind")
        if isinstance(node, (ast.BinOp, ast.AugAssign)) and isinstance(node.op, (ast.Div, ast.MatMult)):
            package.wrong("L7", code, node.lineno, "a division with a point")
        if isinstance(node, ast.Name) and node.id in ("float", "complex", "bytearray", "memoryview", "bytes"):
            package.wrong("L7", code, node.lineno, node.id)
        if isinstance(node, ast.FormattedValue) and (node.format_spec is not None or node.conversion not in (-1, 114, 115)):
            package.wrong("L7", code, node.lineno, "a format, not used here")
        if isinstance(node, ast.Call) and isinstance(node.func, ast.Constant):
            package.wrong("L7", code, node.lineno, "a literal that is called")
        if isinstance(node, ast.Set) and sum(is_integer_literal(one) for one in node.elts) > 2:
            package.wrong("L13", code, node.lineno, "a set of three integers")


def check_lambdas(package, code):
    """No two lambdas with parameters of the same names stand on one line."""
    seen = set()
    for node in ast.walk(code.tree):
        if isinstance(node, ast.Lambda):
            for line in range(node.lineno, node.end_lineno + 1):
                key = (line, tuple(one.arg for one in node.args.args))
                if key in seen:
                    package.wrong("L13", code, node.lineno, "two lambdas with the same parameters on one line")
                seen.add(key)


def is_integer_literal(node):
    if isinstance(node, ast.UnaryOp):
        node = node.operand
    return isinstance(node, ast.Constant) and isinstance(node.value, int)


def local_names(code, node):
    """All names that the functions around a node bind."""
    names = set()
    for one in [node] + list(code.above(node)):
        if isinstance(one, (ast.FunctionDef, ast.Lambda)):
            args = one.args
            names |= {arg.arg for arg in args.args + args.kwonlyargs + args.posonlyargs}
            names |= {arg.arg for arg in (args.vararg, args.kwarg) if arg is not None}
            for inner in ast.walk(one):
                if isinstance(inner, ast.Name) and isinstance(inner.ctx, ast.Store):
                    names.add(inner.id)
                elif isinstance(inner, ast.FunctionDef):
                    names.add(inner.name)
                elif isinstance(inner, ast.ExceptHandler) and inner.name:
                    names.add(inner.name)
                elif isinstance(inner, ast.arg):
                    names.add(inner.arg)
    return names


def check_names_used(package, code):
    known = set(imported_names(code)) | set(module_names(code))
    for node in ast.walk(code.tree):
        if isinstance(node, ast.Name) and isinstance(node.ctx, ast.Load):
            if node.id in known or node.id in local_names(code, node):
                if node.id == "_":
                    package.wrong("L12", code, node.lineno, "_ is read")
            elif node.id not in ALLOWED_BUILTINS:
                package.wrong("L8", code, node.lineno, "a name that is not to be used: " + node.id)
            else:
                check_builtin(package, code, node)


def check_builtin(package, code, node):
    call = code.parents[node]
    is_called = isinstance(call, ast.Call) and call.func is node
    if node.id in ARGUMENTS and not is_called:
        inside_isinstance = any(
            isinstance(one, ast.Call) and isinstance(one.func, ast.Name) and one.func.id == "isinstance"
            for one in code.above(node)
        )
        is_key = isinstance(call, ast.keyword) and call.arg == "key"
        if not inside_isinstance and not is_key:
            package.wrong("L22", code, node.lineno, "a builtin that is stored: " + node.id)
    if is_called and node.id in ARGUMENTS:
        least, most = ARGUMENTS[node.id]
        if not least <= len(call.args) <= most:
            package.wrong("L22", code, node.lineno, "a builtin with a wrong number of arguments: " + node.id)
        for keyword in call.keywords:
            if keyword.arg not in BUILTIN_KEYWORDS.get(node.id, set()):
                package.wrong("L22", code, node.lineno, "a keyword of a builtin: " + str(keyword.arg))


def check_plain_names(package, code):
    text_without_strings = code.text
    for word in ("_wall", "_WallAttr"):
        if re.search(r"(?<![A-Za-z0-9_])%s(?![A-Za-z0-9_])" % word, text_without_strings):
            package.wrong("L12", code, 1, word)
    for name, node in stored_names(code):
        begins = name.startswith("__") and not (isinstance(node, ast.FunctionDef) and name in DUNDERS)
        if not re.match(r"^[A-Za-z0-9_]+$", name) or begins or name.startswith(NEVER_BEGIN) or NEVER_WHOLE.match(name):
            package.wrong("L12", code, line_of(node), "the name " + name)
        if isinstance(node, ast.ClassDef) and not name[0].isalpha():
            package.wrong("L12", code, line_of(node), "the name of the class " + name)
        if re.match(r"^_[^A-Za-z]", name) and not begins and not name.startswith("__"):
            package.wrong("L12", code, line_of(node), "the name " + name)


def check_bound_names(package, code):
    taken = set(imported_names(code)) | {name for name, node in module_names(code).items() if isinstance(node, ast.ClassDef)}
    for name, node in stored_names(code):
        if isinstance(node, ast.alias):
            continue
        if isinstance(node, (ast.FunctionDef, ast.ClassDef)) and code.parents[node] is code.tree:
            if name in BUILTIN_NAMES:
                package.wrong("L15", code, line_of(node), "the name of a builtin: " + name)
            continue
        is_method = isinstance(node, ast.FunctionDef) and isinstance(code.parents[node], ast.ClassDef)
        if name in BUILTIN_NAMES and not is_method:
            package.wrong("L15", code, line_of(node), "the name of a builtin: " + name)
        if name in taken and not is_method:
            package.wrong("L15", code, line_of(node), "the name of a class or an import: " + name)
    tables = {name for name, node in module_names(code).items()
              if isinstance(node, ast.Assign) and isinstance(node.value, (ast.List, ast.Dict))}
    for node in ast.walk(code.tree):
        if isinstance(node, ast.Call) and isinstance(node.func, ast.Attribute) and node.func.attr in CHANGING:
            if isinstance(node.func.value, ast.Name) and node.func.value.id in tables:
                package.wrong("L15", code, node.lineno, "a table at module level that is changed")
        if isinstance(node, ast.Subscript) and not isinstance(node.ctx, ast.Load):
            if isinstance(node.value, ast.Name) and node.value.id in tables:
                package.wrong("L15", code, node.lineno, "a table at module level that is changed")


def check_barred_names(package, code):
    used = [(name, node) for name, node in stored_names(code)]
    for node in ast.walk(code.tree):
        if isinstance(node, ast.Attribute):
            used.append((node.attr, node))
        if isinstance(node, ast.Name):
            used.append((node.id, node))
        if isinstance(node, ast.keyword) and node.arg:
            used.append((node.arg, node.value))
    for name, node in used:
        if name in NEVER or FRAME_WORDS.match(name):
            package.wrong("L17", code, line_of(node), "the name " + name)
    for name, node in stored_names(code):
        if name in NEVER_NAMES:
            package.wrong("L17", code, line_of(node), "the name " + name)
    docstrings = {
        (node.lineno, node.col_offset) for node in ast.walk(code.tree)
        if isinstance(node, ast.Constant) and isinstance(node.value, str) and is_docstring(code, node)
    }
    for token in tokenize.generate_tokens(io.StringIO(code.text).readline):
        if token.type == tokenize.COMMENT or token.start in docstrings:
            continue
        words = set(re.findall(r"[A-Za-z_][A-Za-z0-9_]*", token.string))
        if words & NEVER_WORDS or any(word in token.string for word in NEVER_INSIDE):
            package.wrong("L17", code, token.start[0], "a word that does not occur: " + token.string)


def check_class_use(package, code):
    for node in ast.walk(code.tree):
        if not (isinstance(node, ast.Name) and isinstance(node.ctx, ast.Load) and node.id in package.classes):
            continue
        around = code.parents[node]
        called = isinstance(around, ast.Call) and around.func is node
        asked = (isinstance(around, ast.Call) and isinstance(around.func, ast.Name)
                 and around.func.id == "isinstance" and node in around.args[1:])
        listed = isinstance(around, (ast.ClassDef, ast.ExceptHandler)) or (
            isinstance(around, ast.Tuple) and isinstance(code.parents[around], (ast.ExceptHandler, ast.Call)))
        if not (called or asked or listed):
            package.wrong("L18", code, node.lineno, "a class that is used as a value: " + node.id)


def check_calls(package, code):
    imported = imported_names(code)
    for node in ast.walk(code.tree):
        if not (isinstance(node, ast.Call) and isinstance(node.func, ast.Name)):
            continue
        name = node.func.id
        target = package.functions.get((code.module, name))
        if name in imported and str(imported[name].module).startswith(package.name + "."):
            home = imported[name].module[len(package.name) + 1:]
            target = package.functions.get((home, name))
        skip = 0
        if name in package.classes:
            inits = [one for one in package.classes[name].body if getattr(one, "name", "") == "__init__"]
            target, skip = (inits[0], 1) if inits else (None, 0)
        if target is None or any(isinstance(one, ast.Starred) for one in node.args):
            continue
        names = [arg.arg for arg in target.args.args][skip:]
        given = names[:len(node.args)] + [keyword.arg for keyword in node.keywords]
        wanted = names[:len(names) - len(target.args.defaults)]
        wrong = len(node.args) > len(names) or len(given) != len(set(given)) or not set(given) <= set(names)
        if wrong or not set(wanted) <= set(given):
            package.wrong("L22", code, node.lineno, "a call that does not pass what is taken: " + name)


def is_run(node):
    """Whether a call makes what is to be iterated at once."""
    if not isinstance(node, ast.Call):
        return False
    if isinstance(node.func, ast.Name):
        return node.func.id in RUNS
    return isinstance(node.func, ast.Attribute) and node.func.attr in VIEWS


def check_iterated(package, code):
    for node in ast.walk(code.tree):
        if is_run(node):
            around = code.parents[node]
            in_loop = isinstance(around, (ast.For, ast.comprehension)) and around.iter is node
            taken = isinstance(around, ast.Call) and isinstance(around.func, ast.Name) and (
                around.func.id in TAKERS and node in around.args)
            joined = (isinstance(around, ast.Call) and isinstance(around.func, ast.Attribute)
                      and around.func.attr == "join")
            counted = (isinstance(around, ast.Call) and isinstance(around.func, ast.Name)
                       and around.func.id == "reversed" and getattr(node.func, "id", "") == "range")
            if not (in_loop or taken or joined or counted):
                package.wrong("L23", code, node.lineno, "what is not iterated at once")
        if isinstance(node, ast.For):
            check_loop(package, code, node)


def looped_over(node):
    """The texts of all things that a loop goes over."""
    if isinstance(node, ast.Call) and isinstance(node.func, ast.Name) and node.func.id in RUNS:
        return [text for one in node.args for text in looped_over(one)]
    if isinstance(node, ast.Call) and isinstance(node.func, ast.Attribute) and node.func.attr in VIEWS:
        return [ast.unparse(node.func.value)]
    if isinstance(node, (ast.Name, ast.Attribute, ast.Subscript)):
        return [ast.unparse(node)]
    return []


def check_loop(package, code, loop):
    things = looped_over(loop.iter)
    for statement in loop.body:
        for node in ast.walk(statement):
            changed = None
            if isinstance(node, ast.Call) and isinstance(node.func, ast.Attribute) and node.func.attr in CHANGING:
                changed = ast.unparse(node.func.value)
            if isinstance(node, ast.Subscript) and not isinstance(node.ctx, ast.Load):
                changed = ast.unparse(node.value)
            if isinstance(node, ast.AugAssign):
                changed = ast.unparse(node.target)
            if changed in things:
                package.wrong("L23", code, node.lineno, "what a loop goes over is changed in it")


def check_sets(package, code):
    for node in ast.walk(code.tree):
        is_set = isinstance(node, (ast.Set, ast.SetComp)) or (
            isinstance(node, ast.Call) and isinstance(node.func, ast.Name) and node.func.id in ("set", "frozenset"))
        if not is_set:
            continue
        around = code.parents[node]
        while isinstance(around, ast.BinOp):
            around = code.parents[around]
        taken = isinstance(around, ast.Call) and isinstance(around.func, ast.Name) and (
            around.func.id in ("sorted", "len") and not around.keywords)
        if not (taken or isinstance(around, ast.Compare)):
            package.wrong("L24", code, node.lineno, "a set that stands elsewhere")


def check_methods(package, code):
    for node in ast.walk(code.tree):
        if isinstance(node, ast.Attribute):
            around = code.parents[node]
            called = isinstance(around, ast.Call) and around.func is node
            if called and node.attr not in package.methods:
                if node.attr not in METHODS:
                    package.wrong("L25", code, node.lineno, "a method of a builtin value: " + node.attr)
                if around.keywords:
                    package.wrong("L25", code, node.lineno, "a keyword of a method: " + node.attr)
                if node.attr in VIEWS and around.args:
                    package.wrong("L25", code, node.lineno, "an argument of " + node.attr)
            if not called and node.attr in METHODS and node.attr not in package.attributes:
                package.wrong("L25", code, node.lineno, "a method that is passed on: " + node.attr)
            if isinstance(node.ctx, ast.Store):
                if node.attr in OBJECT_METHODS | {"args", "sort", "format"} and node.attr not in OWN_ATTRIBUTES:
                    package.wrong("L26", code, node.lineno, "an attribute called " + node.attr)
            elif not called and node.attr not in package.attributes:
                package.wrong("L18", code, node.lineno, "an attribute that no class assigns: " + node.attr)


def is_small_literal(node):
    return isinstance(node, ast.Constant) and isinstance(node.value, int) and 0 <= node.value <= 64


def check_numbers(package, code):
    for node in ast.walk(code.tree):
        if isinstance(node, ast.BinOp) and isinstance(node.op, ast.Pow) and not is_small_literal(node.right):
            package.wrong("L27", code, node.lineno, "an exponent")
        if isinstance(node, ast.Constant) and isinstance(node.value, str):
            text = node.value
            if "%" in text:
                package.wrong("L27", code, node.lineno, "a sign of hundredths in a string")
            if text.endswith(("._", ".__")) or (FRAME_WORDS.match(text)) or re.match(r"^__.*__$", text, re.S):
                package.wrong("L27", code, node.lineno, "a string: " + text)
            if ("{" in text or ("." in text and " " not in text)) and re.search(r"(?<![A-Za-z0-9_])__", text):
                package.wrong("L27", code, node.lineno, "a string: " + text)
    for token in tokenize.generate_tokens(io.StringIO(code.text).readline):
        if token.type == tokenize.STRING and re.search(r"\\[^nt\\'\"]", token.string.replace("\\\\", "")):
            package.wrong("L27", code, token.start[0], "an escape")
        if token.type == tokenize.NUMBER and len(token.string) > 900:
            package.wrong("L27", code, token.start[0], "a number of more than 900 digits")
    with warnings.catch_warnings():
        warnings.simplefilter("error")
        try:
            compile(code.text, code.path, "exec")
        except (SyntaxError, Warning) as why:
            package.wrong("L27", code, 1, "Python warns: " + str(why))


def check_rings(package):
    """No two files import from each other, also not through other files."""
    asked = {}
    for code in package.codes:
        asked[code.module] = {
            str(node.module)[len(package.name) + 1:] for node in code.tree.body
            if isinstance(node, ast.ImportFrom) and str(node.module).startswith(package.name + ".")
        }
    for code in package.codes:
        seen, fresh = set(), [code.module]
        while fresh:
            for other in asked.get(fresh.pop(), ()):
                if other == code.module:
                    package.wrong("L16", code, 1, "imports in a circle")
                    return
                if other not in seen:
                    seen.add(other)
                    fresh.append(other)


def check_strings_together(package):
    many = sum(
        len(node.value) for code in package.codes for node in ast.walk(code.tree)
        if isinstance(node, ast.Constant) and isinstance(node.value, str)
    )
    if many > 2000000 or len(package.codes) > 100:
        package.wrong("L14", package.codes[0], 1, "too many characters in strings, or too many files")


CHECKS = [
    check_files, check_sizes, check_imports, check_library, check_module_level, check_functions, check_statements,
    check_values, check_lambdas, check_names_used, check_plain_names, check_bound_names, check_barred_names, check_class_use,
    check_calls, check_iterated, check_sets, check_methods, check_numbers,
]


def check_texts(name, files):
    """What is wrong in a package of pairs (file name, text): an ascending list of (rule, file, line, why)."""
    return Package(name, files).check()


def check_folder(folder):
    """What is wrong in a folder that is a package."""
    found, files = [], []
    for name in sorted(os.listdir(folder)):
        path = os.path.join(folder, name)
        if name == "__pycache__":
            # Python itself lays it there where it may; it is no file of the package.
            continue
        if not os.path.isfile(path) or not name.endswith(".py"):
            found.append(("L1", name, 1, "something that is no file of the package"))
            continue
        with open(path, "rb") as held:
            data = held.read()
        files.append((path, data.decode("utf-8")))
    return found + check_texts(os.path.basename(folder), files)
