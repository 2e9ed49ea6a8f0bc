"""Looks through the package's files for what ../shared/LANGUAGE.md does not let by.

`faults(folder)` is a list of texts "file:line: rule: what". It sees what can be seen in the shape of the code;
where a rule needs more, it is narrower than the rule.
"""

import ast
import builtins
import io
import os
import re
import tokenize

CALLED = (
    "len range enumerate zip min max sum abs sorted reversed int str bool list tuple dict set frozenset isinstance "
    "ord repr any all divmod"
).split()
ERRORS = (
    "Exception ValueError TypeError KeyError IndexError LookupError ZeroDivisionError ArithmeticError OverflowError "
    "RuntimeError NotImplementedError AttributeError StopIteration"
).split()
METHODS = (
    "append clear copy count endswith extend find get index insert isalnum isalpha isdigit islower isspace isupper "
    "items join keys ljust lower lstrip partition pop remove replace reverse rfind rjust rpartition rsplit rstrip "
    "setdefault split splitlines startswith strip update upper values zfill bit_length"
).split()
VALUES_LIKE_METHODS = "count index title find get join lower upper split strip copy add".split()
DUNDERS = "__init__ __eq__ __repr__ __str__ __len__".split()
NOWHERE = "register mro elements open input version_info with_traceback add_note format format_map".split()
NOT_NAMES = (
    "attrgetter breakpoint builtins compile copyright credits delattr dir eval exec exit gc getattr globals hasattr "
    "help id importlib license locals methodcaller os quit setattr super type vars sys __name__ chr print"
).split()
WORDS_OUT = (
    "type typing typing_extensions enum Enum IntEnum StrEnum Flag IntFlag Generic Protocol ABC ABCMeta namedtuple "
    "NamedTuple TypedDict TYPE_CHECKING abstractmethod"
).split()
WITHIN_OUT = "dataclass overload contextmanager".split()
FILES_OUT = "test tests testing site conftest sitecustomize usercustomize".split()
PYTHONS_OWN = set(dir(builtins))
OF_PYTHONS_KINDS = set(dir(str)) | set(dir(int)) | set(dir(list)) | set(dir(dict)) | set(dir(set)) | set(dir(bytes))
OF_PYTHONS_KINDS |= set(dir(frozenset)) | set(dir(tuple))

STATEMENTS = (
    ast.Assign, ast.AugAssign, ast.If, ast.While, ast.For, ast.Return, ast.Break, ast.Continue, ast.Pass, ast.Raise,
    ast.Try, ast.Expr, ast.FunctionDef, ast.ClassDef, ast.ImportFrom, ast.Import,
)
EXPRESSIONS = (
    ast.Constant, ast.List, ast.Tuple, ast.Dict, ast.Set, ast.BinOp, ast.UnaryOp, ast.BoolOp, ast.Compare, ast.IfExp,
    ast.Call, ast.Attribute, ast.Subscript, ast.Slice, ast.ListComp, ast.JoinedStr, ast.FormattedValue, ast.Name,
    ast.Lambda,
)
WALKED = ("zip", "enumerate", "reversed", "range")
WALKED_METHODS = ("items", "keys", "values")
WALKERS = "list tuple dict sorted sum any all enumerate zip min max".split()
KEYWORDS = {
    "sorted": ("key", "reverse"), "min": ("key", "default"), "max": ("key", "default"), "sum": ("start",),
    "enumerate": ("start",), "zip": ("strict",),
}
KEYS_LET_BY = "len int str abs sum min max tuple".split()


def faults(folder):
    """All that is found in the files of the package folder."""
    found = []
    modules = {}
    package = os.path.basename(folder)
    for name in sorted(os.listdir(folder)):
        if name == "__pycache__":
            continue
        stem = name[:-3]
        if not re.fullmatch(r"[a-z][a-z0-9_]*\.py|__init__\.py|__main__\.py", name):
            found.append(f"{name}:0: L1, L14: no plain file")
            continue
        if stem in FILES_OUT or stem in PYTHONS_OWN or stem in WORDS_OUT or stem.startswith("test_"):
            found.append(f"{name}:0: L14: no name for a file")
        with open(os.path.join(folder, name), encoding="utf-8", newline="") as file:
            modules[stem] = file.read()
    if "__init__" not in modules:
        found.append("__init__.py:0: L14: is not there")
    trees = {stem: ast.parse(text) for stem, text in modules.items()}
    for stem in modules:
        found += Look(package, stem, modules[stem], trees).all()
    return found + method_value_faults(trees) + circle_faults(package, trees)


def method_value_faults(trees):
    """L18: a name that is a method in one class and a value in another."""
    methods = {}
    values = {}
    for stem, tree in trees.items():
        for node in ast.walk(tree):
            if isinstance(node, ast.ClassDef):
                for item in node.body:
                    if isinstance(item, ast.FunctionDef):
                        methods[item.name] = stem
            if isinstance(node, ast.Attribute) and isinstance(node.ctx, ast.Store):
                values[node.attr] = (stem, node.lineno)
    return [
        f"{stem}.py:{line}: L18: {name} is a method too" for name, (stem, line) in values.items() if name in methods
    ]


def circle_faults(package, trees):
    """L16: files that draw from one another."""
    draws = {}
    for stem, tree in trees.items():
        draws[stem] = {
            node.module.split(".")[-1] for node in tree.body
            if isinstance(node, ast.ImportFrom) and node.module and node.module.startswith(package + ".")
        }
    found = []
    for stem in draws:
        seen = set()
        ahead = list(draws[stem])
        while ahead:
            one = ahead.pop()
            if one not in seen:
                seen.add(one)
                ahead += list(draws.get(one, ()))
        if stem in seen:
            found.append(f"{stem}.py:0: L16: draws from itself")
    return found


def top_names(tree):
    """The names that a file's top binds by itself, with the lines."""
    names = []
    for node in tree.body:
        if isinstance(node, (ast.FunctionDef, ast.ClassDef)):
            names.append((node.name, node.lineno))
        elif isinstance(node, ast.Assign):
            names += [(target.id, node.lineno) for target in node.targets if isinstance(target, ast.Name)]
    return names


class Look:
    """One file, looked through."""

    def __init__(self, package, stem, text, trees):
        self.package = package
        self.stem = stem
        self.text = text
        self.trees = trees
        self.tree = trees[stem]
        self.found = []
        self.parents = {}
        for node in ast.walk(self.tree):
            for child in ast.iter_child_nodes(node):
                self.parents[child] = node
        self.imports = [
            alias.name for node in self.tree.body if isinstance(node, ast.ImportFrom) for alias in node.names
        ]
        self.own = [name for name, _ in top_names(self.tree)]
        self.classes = set()
        self.errors = set(ERRORS)
        self.own_methods = set()
        for tree in trees.values():
            for node in tree.body:
                if isinstance(node, ast.ClassDef):
                    self.classes.add(node.name)
                    self.own_methods |= {item.name for item in node.body if isinstance(item, ast.FunctionDef)}

    def fault(self, node, rule, what):
        line = node if isinstance(node, int) else getattr(node, "lineno", 0)
        self.found.append(f"{self.stem}.py:{line}: {rule}: {what}")

    def all(self):
        self.look_at_signs()
        self.look_at_top()
        for node in ast.walk(self.tree):
            self.look_at_node(node)
        for node in ast.walk(self.tree):
            if isinstance(node, (ast.FunctionDef, ast.Lambda)):
                self.look_at_def(node)
            if isinstance(node, ast.ClassDef):
                self.look_at_class(node)
        return self.found

    def look_at_signs(self):
        lines = self.text.split("\n")
        if len(lines) - 1 > 400:
            self.fault(len(lines), "L10", "a file of more than 400 lines")
        for place, line in enumerate(lines, start=1):
            if len(line) > 120:
                self.fault(place, "L10", "a line of more than 120 signs")
            if any(not " " <= sign <= "~" for sign in line):
                self.fault(place, "L14", "a sign that is not let by")
            for word in re.findall(r"\w+", line):
                if word in WORDS_OUT or any(part in word for part in WITHIN_OUT):
                    self.fault(place, "L17", word)
        for token in tokenize.generate_tokens(io.StringIO(self.text).readline):
            if token.type == tokenize.STRING:
                self.look_at_text_token(token)
            if token.type == tokenize.NUMBER and not re.fullmatch(r"[0-9]{1,900}", token.string):
                self.fault(token.start[0], "L7, L27", token.string)

    def look_at_text_token(self, token):
        if re.match(r"[A-Za-z]", token.string) and not re.match(r"[fF]['\"]", token.string):
            self.fault(token.start[0], "L7", "a prefix of a text")
        if "%" in token.string:
            self.fault(token.start[0], "L27", "the sign % in a text")
        for escape in re.findall(r"\\(.)", token.string, re.S):
            if escape not in "nt\\'\"":
                self.fault(token.start[0], "L27", "an escape")

    def look_at_top(self):
        body = self.tree.body
        if not (body and isinstance(body[0], ast.Expr) and isinstance(body[0].value, ast.Constant)):
            self.fault(1, "L3", "no docstring")
        imports_over = False
        for node in body[1:]:
            if isinstance(node, ast.ImportFrom):
                if imports_over:
                    self.fault(node, "L2", "an import that is not at the top")
                self.look_at_import(node)
                continue
            imports_over = True
            if isinstance(node, ast.Import):
                self.fault(node, "L2, L16", "import")
            elif isinstance(node, ast.Assign):
                if len(node.targets) != 1 or not isinstance(node.targets[0], ast.Name):
                    self.fault(node, "L3", "no plain name")
                if not self.is_plain(node.value, False):
                    self.fault(node, "L3, L15", "no plain value")
            elif not isinstance(node, (ast.FunctionDef, ast.ClassDef)):
                self.fault(node, "L3", "not for the top of a file")
        names = self.own + self.imports
        for name in names:
            if names.count(name) > 1:
                self.fault(1, "L15", f"{name} is bound twice")
        if self.stem == "__init__":
            for name in names:
                if name in self.trees:
                    self.fault(1, "L16", f"{name} is a file")

    def look_at_import(self, node):
        source = (node.module or "").split(".")
        if node.level or len(source) != 2 or source[0] != self.package or source[1] not in self.trees:
            self.fault(node, "L2", "not one of the package's own files")
            return
        there = [name for name, _ in top_names(self.trees[source[1]])]
        for alias in node.names:
            if alias.name not in there or alias.asname:
                self.fault(node, "L16", f"{alias.name} is not defined there")

    def is_plain(self, node, within):
        if isinstance(node, ast.Constant):
            return node.value is None or isinstance(node.value, (int, str))
        if isinstance(node, ast.UnaryOp) and isinstance(node.op, ast.USub):
            return isinstance(node.operand, ast.Constant) and isinstance(node.operand.value, int)
        if isinstance(node, ast.Name):
            return node.id in self.own and node.id not in self.classes
        if isinstance(node, ast.Tuple):
            return all(self.is_plain(part, True) for part in node.elts)
        if isinstance(node, ast.List) and not within:
            return all(self.is_plain(part, True) for part in node.elts)
        if isinstance(node, ast.Dict) and not within:
            return all(part is not None and self.is_plain(part, True) for part in node.keys + node.values)
        return False

    def look_at_node(self, node):
        if isinstance(node, ast.stmt) and not isinstance(node, STATEMENTS):
            self.fault(node, "L6", type(node).__name__)
        if isinstance(node, ast.expr) and not isinstance(node, EXPRESSIONS):
            self.fault(node, "L7", type(node).__name__)
        looks = {
            ast.Assign: self.look_at_assign, ast.For: self.look_at_loop, ast.While: self.look_at_loop,
            ast.Try: self.look_at_try, ast.Raise: self.look_at_raise, ast.Expr: self.look_at_bare,
            ast.ListComp: self.look_at_comprehension, ast.FormattedValue: self.look_at_braces,
            ast.Constant: self.look_at_constant, ast.BinOp: self.look_at_operation, ast.Compare: self.look_at_compare,
            ast.Call: self.look_at_call, ast.Name: self.look_at_name, ast.Attribute: self.look_at_attribute,
            ast.Set: self.look_at_set,
        }
        look = looks.get(type(node))
        if look:
            look(node)

    def look_at_assign(self, node):
        if len(node.targets) != 1 or isinstance(node.targets[0], (ast.Tuple, ast.List, ast.Starred)):
            self.fault(node, "L6", "more than one target")

    def look_at_loop(self, node):
        if node.orelse:
            self.fault(node, "L6", "else behind a loop")
        if isinstance(node, ast.For):
            walked = node.iter
            while isinstance(walked, ast.Call) and isinstance(walked.func, ast.Name) and walked.args:
                if walked.func.id not in ("enumerate", "reversed"):
                    break
                walked = walked.args[0]
            if isinstance(walked, ast.Call) and isinstance(walked.func, ast.Attribute):
                if walked.func.attr in WALKED_METHODS:
                    walked = walked.func.value
            self.look_for_changes(node, ast.dump(walked))

    def look_for_changes(self, loop, walked):
        changes = ("append", "clear", "extend", "insert", "pop", "remove", "reverse", "setdefault", "update")
        for node in ast.walk(loop):
            if isinstance(node, ast.Call) and isinstance(node.func, ast.Attribute) and node.func.attr in changes:
                if ast.dump(node.func.value) == walked:
                    self.fault(node, "L23", "changes what is walked")
            if isinstance(node, ast.Subscript) and isinstance(node.ctx, ast.Store):
                if ast.dump(node.value) == walked:
                    self.fault(node, "L23", "changes what is walked")

    def look_at_try(self, node):
        if node.finalbody:
            self.fault(node, "L6", "finally")
        for handler in node.handlers:
            taken = handler.type.elts if isinstance(handler.type, ast.Tuple) else [handler.type]
            for name in taken:
                own = isinstance(name, ast.Name) and name.id in self.classes
                if not own and not (isinstance(name, ast.Name) and name.id in ("KeyError", "ZeroDivisionError")):
                    self.fault(handler, "L19", "takes what is to be looked at by hand")

    def look_at_raise(self, node):
        if not isinstance(node.exc, ast.Call) or not isinstance(node.exc.func, ast.Name):
            self.fault(node, "L19", "an error that is not made on the spot")
        if node.cause and not (isinstance(node.cause, ast.Constant) and node.cause.value is None):
            if not isinstance(node.cause, ast.Name):
                self.fault(node, "L19", "raise from")

    def look_at_bare(self, node):
        docstring = isinstance(node.value, ast.Constant) and isinstance(node.value.value, str)
        parent = self.parents[node]
        if docstring and isinstance(parent, (ast.Module, ast.ClassDef, ast.FunctionDef)) and parent.body[0] is node:
            return
        if not isinstance(node.value, ast.Call):
            self.fault(node, "L6", "neither a call nor a docstring")

    def look_at_comprehension(self, node):
        if len(node.generators) != 1 or len(node.generators[0].ifs) > 1 or node.generators[0].is_async:
            self.fault(node, "L7", "a comprehension with more than one for or if")

    def look_at_braces(self, node):
        if not isinstance(node.value, ast.Name) or node.format_spec or node.conversion not in (-1, ord("r")):
            self.fault(node, "L7", "no plain name within the braces")

    def look_at_constant(self, node):
        if isinstance(node.value, (float, complex, bytes)) or node.value is ...:
            self.fault(node, "L7", repr(node.value))
        if isinstance(node.value, str) and "%" in node.value:
            self.fault(node, "L27", "the sign % in a text")

    def look_at_operation(self, node):
        if isinstance(node.op, (ast.Div, ast.MatMult)):
            self.fault(node, "L7", "an operator")
        if isinstance(node.op, ast.Pow):
            right = node.right
            if not (isinstance(right, ast.Constant) and isinstance(right.value, int) and 0 <= right.value <= 64):
                self.fault(node, "L27", "no written exponent from 0 to 64")

    def look_at_compare(self, node):
        sides = [node.left] + node.comparators
        for place, operator in enumerate(node.ops):
            if isinstance(operator, (ast.Is, ast.IsNot)):
                beside = sides[place:place + 2]
                if not any(isinstance(one, ast.Constant) and one.value in (None, True, False) for one in beside):
                    self.fault(node, "L20", "is")

    def look_at_call(self, node):
        name = node.func.id if isinstance(node.func, ast.Name) else None
        if any(keyword.arg is None for keyword in node.keywords):
            self.fault(node, "L7", "a star")
        pythons = name in CALLED or name in ERRORS
        pythons = pythons or (isinstance(node.func, ast.Attribute) and node.func.attr in METHODS)
        for keyword in node.keywords:
            if pythons and keyword.arg not in KEYWORDS.get(name, ()):
                self.fault(node, "L22", f"the keyword {keyword.arg}")
            if keyword.arg in ("reverse", "strict") and pythons and not isinstance(keyword.value, ast.Constant):
                self.fault(node, "L22", f"{keyword.arg} without a written truth")
        if name == "isinstance":
            kinds = node.args[1].elts if isinstance(node.args[1], ast.Tuple) else [node.args[1]]
            for kind in kinds:
                known = isinstance(kind, ast.Name) and (
                    kind.id in ("int", "str", "bool", "list", "tuple", "dict") or kind.id in self.classes)
                if not known:
                    self.fault(node, "L22", "isinstance")
        self.look_at_walked(node, name)
        if name in ("set", "frozenset"):
            self.look_at_set(node)

    def look_at_walked(self, node, name):
        walked = name in WALKED
        if isinstance(node.func, ast.Attribute) and node.func.attr in WALKED_METHODS:
            walked = True
        if not walked:
            return
        parent = self.parents[node]
        if isinstance(parent, (ast.For, ast.comprehension)) and parent.iter is node:
            return
        if isinstance(parent, ast.Call) and isinstance(parent.func, ast.Name) and parent.func.id in WALKERS:
            if parent.args and (parent.args[0] is node or parent.func.id == "zip"):
                return
        if isinstance(parent, ast.Call) and isinstance(parent.func, ast.Attribute) and parent.func.attr == "join":
            if isinstance(parent.func.value, ast.Constant):
                return
        self.fault(node, "L23", "is not walked on the spot")

    def look_at_set(self, node):
        parent = self.parents[node]
        while isinstance(parent, ast.BinOp):
            parent = self.parents[parent]
        if isinstance(parent, ast.Compare):
            return
        if isinstance(parent, ast.Call) and isinstance(parent.func, ast.Name) and not parent.keywords:
            if parent.func.id in ("sorted", "len"):
                return
        self.fault(node, "L24", "a set that is kept or walked")

    def look_at_name(self, node):
        name = node.id
        if not re.fullmatch(r"[A-Za-z][A-Za-z0-9_]*", name):
            self.fault(node, "L12", name)
        if name in NOWHERE or name in NOT_NAMES or re.match(r"(f|tb|co|gi|cr)_", name):
            self.fault(node, "L17, L27", name)
        if isinstance(node.ctx, ast.Load) and name in PYTHONS_OWN and name not in CALLED and name not in ERRORS:
            self.fault(node, "L8", name)
        parent = self.parents[node]
        if isinstance(node.ctx, ast.Load) and name in CALLED and name not in self.own:
            called = isinstance(parent, ast.Call) and parent.func is node
            as_key = isinstance(parent, ast.keyword) and parent.arg == "key" and name in KEYS_LET_BY
            as_kind = self.stands_by_isinstance(node)
            if not called and not as_key and not as_kind:
                self.fault(node, "L22", f"{name} as a value")
        if isinstance(node.ctx, ast.Load) and name in self.classes:
            self.look_at_class_name(node, parent)

    def stands_by_isinstance(self, node):
        parent = self.parents[node]
        if isinstance(parent, ast.Tuple):
            parent = self.parents[parent]
        return isinstance(parent, ast.Call) and isinstance(parent.func, ast.Name) and parent.func.id == "isinstance"

    def look_at_class_name(self, node, parent):
        called = isinstance(parent, ast.Call) and parent.func is node
        base = isinstance(parent, ast.ClassDef)
        taken = isinstance(parent, ast.ExceptHandler) or isinstance(self.parents.get(parent), ast.ExceptHandler)
        first = isinstance(parent, ast.Attribute) and parent.attr == "__init__"
        if not (called or base or taken or first or self.stands_by_isinstance(node)):
            self.fault(node, "L18", f"the class {node.id} handed on")

    def look_at_attribute(self, node):
        name = node.attr
        if name.startswith("_") and name != "__init__":
            self.fault(node, "L8, L12", name)
        if name in NOWHERE or re.match(r"(f|tb|co|gi|cr)_", name):
            self.fault(node, "L8, L17", name)
        parent = self.parents[node]
        called = isinstance(parent, ast.Call) and parent.func is node
        if called and name not in METHODS and name not in self.own_methods and name != "__init__":
            self.fault(node, "L25", name)
        if not called and (name in METHODS or name in self.own_methods) and name not in VALUES_LIKE_METHODS:
            if not (isinstance(parent, ast.keyword) and parent.arg == "key"):
                self.fault(node, "L25", f"{name} handed on")
        if isinstance(node.ctx, ast.Store):
            if name in OF_PYTHONS_KINDS and name not in VALUES_LIKE_METHODS or name == "args":
                self.fault(node, "L26", name)
            if not isinstance(node.value, ast.Name) or node.value.id in self.own + self.imports:
                self.fault(node, "L18", "a value that is not given through a local name")

    def look_at_def(self, node):
        args = node.args
        if args.vararg or args.kwarg or args.kwonlyargs or args.posonlyargs:
            self.fault(node, "L4", "no plain parameters")
        if not all(self.is_plain(default, True) for default in args.defaults):
            self.fault(node, "L4", "a default that is no plain value")
        local = [arg.arg for arg in args.args]
        for inner in ast.walk(node):
            if isinstance(inner, ast.Name) and isinstance(inner.ctx, ast.Store):
                local.append(inner.id)
        for name in local:
            if name in PYTHONS_OWN or name in self.imports or name in self.classes & set(self.own):
                self.fault(node, "L15", f"{name} has another meaning")
            if not re.fullmatch(r"[A-Za-z][A-Za-z0-9_]*", name) or name in NOWHERE + NOT_NAMES:
                self.fault(node, "L12, L17", name)
        if isinstance(node, ast.FunctionDef):
            self.look_at_whole_def(node)

    def look_at_whole_def(self, node):
        if node.decorator_list:
            self.fault(node, "L4", "a decorator")
        if node.returns or any(arg.annotation for arg in node.args.args):
            self.fault(node, "L21", "an annotation")
        if node.end_lineno - node.lineno + 1 > 40:
            self.fault(node, "L10", "a function of more than 40 lines")
        if node.name.startswith("_") and node.name not in DUNDERS:
            self.fault(node, "L12", node.name)
        if node.name in NOWHERE:
            self.fault(node, "L17", node.name)
        if node.name == "__init__":
            for inner in ast.walk(node):
                if isinstance(inner, ast.Return) and inner.value is not None:
                    self.fault(inner, "L28", "__init__ gives something back")
        elif node.name in DUNDERS:
            self.fault(node, "L28", "best not written")

    def look_at_class(self, node):
        if node.decorator_list or node.keywords or len(node.bases) > 1:
            self.fault(node, "L5", "no plain class")
        if not isinstance(self.parents[node], ast.Module):
            self.fault(node, "L15", "a class that is not at the top")
        for base in node.bases:
            if not isinstance(base, ast.Name) or base.id not in self.classes | {"ValueError", "Exception"}:
                self.fault(node, "L5, L18", "the base")
        names = [item.name for item in node.body if isinstance(item, ast.FunctionDef)]
        for name in names:
            if names.count(name) > 1:
                self.fault(node, "L18", f"{name} stands twice")
            if name in OF_PYTHONS_KINDS and name not in METHODS + ["add", "discard"] + DUNDERS:
                self.fault(node, "L26", name)
        for item in node.body:
            if not isinstance(item, (ast.FunctionDef, ast.Expr)):
                self.fault(item, "L5", "a value in the class body")
