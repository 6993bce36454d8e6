"""Checks the package against those rules of LANGUAGE.md that a look at each node can tell.

It prints one line for each fault and exits with 1 if there is one. It knows
only a part of the rules, and it is stricter than some of them.
"""

import ast
import builtins
import pathlib
import re
import sys

BUILTINS = set("""len range enumerate zip min max sum abs sorted reversed int str bool list tuple dict
    set isinstance ord repr any all divmod Exception ValueError TypeError KeyError IndexError
    LookupError ZeroDivisionError NotImplemented iter next pow getattr hasattr setattr super
    True False None""".split())
METHODS = set("""append clear copy count endswith extend find get index insert isalnum isalpha isdigit
    islower isspace isupper items join keys ljust lower lstrip partition pop remove replace reverse
    rfind rjust rpartition rsplit rstrip setdefault split splitlines startswith strip update upper
    values zfill bit_length add discard format""".split())
WORDS = re.compile(r"\b(type|typing|enum|Enum|ABC|Protocol|Generic|namedtuple|register|mro|elements"
                   r"|open|input|law|_wall|_WallAttr)\b|dataclass|overload|contextmanager")
AT_ONCE = ("zip", "enumerate", "reversed", "range")
EATERS = ("list", "tuple", "dict", "sorted", "sum", "any", "all", "enumerate", "zip", "len", "reversed")
DUNDERS = set("""__init__ __eq__ __repr__ __str__ __len__ __enter__ __exit__ __call__ __iter__ __lt__
    __le__ __gt__ __ge__ __ne__ __add__ __sub__ __mul__ __floordiv__ __mod__ __pow__ __and__ __or__
    __xor__ __lshift__ __rshift__ __neg__ __contains__ __getitem__ __setitem__ __bool__""".split())
BANNED = (ast.Global, ast.AsyncFunctionDef, ast.AsyncFor, ast.AsyncWith, ast.Await, ast.Import, ast.Div,
          ast.JoinedStr, ast.AnnAssign, ast.SetComp, ast.Set, ast.NamedExpr, ast.Lambda)


def called(node):
    """Return the bare name that a call calls, or an empty text."""
    return node.func.id if isinstance(node, ast.Call) and isinstance(node.func, ast.Name) else ""


class Look:
    """One file of the package, with the faults that were found in it."""

    def __init__(self, path, package):
        self.path = path
        self.package = package
        self.text = path.read_text()
        self.tree = ast.parse(self.text)
        self.faults = []
        self.above = {}
        for node in ast.walk(self.tree):
            for child in ast.iter_child_nodes(node):
                self.above[child] = node

    def say(self, node, rule, what):
        """Note a fault."""
        line = node if isinstance(node, int) else getattr(node, "lineno", 0)
        self.faults.append(f"{self.path}:{line}: {rule} {what}")

    def text_rules(self):
        """Look at the characters and the sizes."""
        lines = self.text.split("\n")
        if len(lines) > 400:
            self.say(400, "L10", "the file is too long")
        for number, line in enumerate(lines, 1):
            if len(line) > 120:
                self.say(number, "L10", "the line is too long")
            if re.search(r"[^ -~]", line):
                self.say(number, "L14", "a character that is not allowed")
        docs = [ast.get_docstring(node, clean=False) for node in ast.walk(self.tree)
                if isinstance(node, (ast.Module, ast.ClassDef, ast.FunctionDef))]
        bare = re.sub(r"#.*", "", self.text)
        for doc in docs:
            bare = bare.replace(doc or "\0", "")
        for found in WORDS.finditer(bare):
            self.say(0, "L17", "the word " + found.group(0))

    def module_rules(self):
        """Look at what stands at module level."""
        for node in self.tree.body[1 if ast.get_docstring(self.tree) else 0:]:
            if isinstance(node, ast.ImportFrom):
                self.import_rules(node)
            elif isinstance(node, ast.Assign):
                if len(node.targets) != 1 or not isinstance(node.targets[0], ast.Name):
                    self.say(node, "L3", "not a plain assignment")
            elif not isinstance(node, (ast.FunctionDef, ast.ClassDef)):
                self.say(node, "L3", "not allowed at module level")

    def import_rules(self, node):
        """Look at one import."""
        allowed = {"heapq", "math", "itertools", "collections"}
        if node.module in allowed:
            return
        if node.level or not (node.module or "").startswith(self.package.name + "."):
            self.say(node, "L2", "an import from outside")
            return
        source = self.package / (node.module.split(".")[1] + ".py")
        made = [getattr(item, "name", None) or item.targets[0].id
                for item in ast.parse(source.read_text()).body
                if isinstance(item, (ast.FunctionDef, ast.ClassDef, ast.Assign))]
        for name in node.names:
            if name.name not in made or name.asname:
                self.say(node, "L16", name.name + " is not defined there")

    def node_rules(self):
        """Look at every node."""
        module_names = {name.asname or name.name for node in self.tree.body
                        if isinstance(node, ast.ImportFrom) for name in node.names}
        classes = {node.name for node in self.tree.body if isinstance(node, ast.ClassDef)}
        for node in ast.walk(self.tree):
            if isinstance(node, BANNED):
                self.say(node, "L6", type(node).__name__ + " is not used here")
            elif isinstance(node, ast.FunctionDef):
                self.function_rules(node)
            elif isinstance(node, ast.Constant):
                self.constant_rules(node)
            elif isinstance(node, ast.GeneratorExp):
                if called(self.above[node]) not in ("list", "tuple", "dict"):
                    self.say(node, "L7", "a generator expression")
            elif isinstance(node, ast.Call):
                self.call_rules(node)
            elif isinstance(node, ast.Compare):
                self.compare_rules(node)
            names = [node.id] if isinstance(node, ast.Name) and isinstance(node.ctx, ast.Store) else []
            names += [node.arg] if isinstance(node, ast.arg) else []
            for name in names:
                if name in module_names or name in classes or hasattr(builtins, name):
                    self.say(node, "L15", name + " means something else already")

    def table_rules(self):
        """Look at how lists and dicts of module level are used: they are only read."""
        tables = []
        for path in self.package.glob("*.py"):
            for item in ast.parse(path.read_text()).body:
                if isinstance(item, ast.Assign) and isinstance(item.value, (ast.Dict, ast.List)):
                    tables.append(item.targets[0].id)
        for node in ast.walk(self.tree):
            if not (isinstance(node, ast.Name) and node.id in tables and isinstance(node.ctx, ast.Load)):
                continue
            above = self.above[node]
            read = isinstance(above, (ast.Compare, ast.For, ast.comprehension))
            read = read or isinstance(above, ast.Subscript) and isinstance(above.ctx, ast.Load)
            read = read or isinstance(above, ast.Attribute) and above.attr in ("get", "items", "keys", "values")
            if not (read or called(above) in EATERS):
                self.say(node, "L15", node.id + " is not only read")

    def function_rules(self, node):
        """Look at one function."""
        if node.end_lineno - node.lineno + 1 > 40:
            self.say(node, "L10", node.name + " is too long")
        if node.name.startswith("__") and node.name not in DUNDERS:
            self.say(node, "L5", node.name)
        for decorator in node.decorator_list:
            if not isinstance(decorator, (ast.Name, ast.Attribute)):
                self.say(node, "L4", "a decorator")

    def constant_rules(self, node):
        """Look at one literal."""
        if isinstance(node.value, (float, complex)):
            self.say(node, "L7", "a float")
        if isinstance(node.value, str) and "%" in node.value:
            self.say(node, "L27", "a string with this sign")

    def call_rules(self, node):
        """Look at one call."""
        name = called(node)
        above = self.above[node]
        if name in AT_ONCE and name != "range":
            loop = isinstance(above, (ast.For, ast.comprehension))
            if not loop and called(above) not in EATERS:
                self.say(node, "L23", name + " is not iterated at once")
        if name == "set" and called(above) not in ("sorted", "len"):
            self.say(node, "L24", "a set is kept")
        if name in ("any", "all", "sum", "sorted") and node.args:
            if isinstance(node.args[0], ast.GeneratorExp):
                self.say(node, "L7", name + " takes a list")
        if hasattr(builtins, name) and name not in BUILTINS:
            self.say(node, "L8", name)
        if isinstance(node.func, ast.Attribute) and node.func.attr in ("sort", "format_map"):
            self.say(node, "L25", node.func.attr)

    def compare_rules(self, node):
        """Look at one comparison."""
        for sign, right in zip(node.ops, node.comparators):
            if isinstance(sign, (ast.Is, ast.IsNot)):
                if not (isinstance(right, ast.Constant) and right.value in (None, True, False)):
                    self.say(node, "L20", "is")


def functions_by_name(paths):
    """Return (path, function) under each name by which a call may mean it.

    A class stands for its `__init__`, a method for its bare name.
    """
    found = {}
    for path in paths:
        for node in ast.walk(ast.parse(path.read_text())):
            if isinstance(node, ast.FunctionDef):
                found.setdefault(node.name, []).append((path, node))
            elif isinstance(node, ast.ClassDef):
                made = [item for item in node.body if getattr(item, "name", "") == "__init__"]
                found.setdefault(node.name, []).extend([(path, item) for item in made])
    return found


def is_operator(node):
    """Tell whether a function is an operator, a property or the like, which changes nothing."""
    if node.name in ("__init__", "__enter__", "__exit__", "__call__", "__setitem__"):
        return False
    return node.name in DUNDERS or bool(node.decorator_list)


def products_in_operators(paths):
    """Return a text for each product of a list in what an operator calls.

    Where a class has a `__mul__`, such a product is not surely a new list, and
    an operator changes only what it surely created (L5 with L28).
    """
    named = functions_by_name(paths)
    todo = [pair for pairs in named.values() for pair in pairs if is_operator(pair[1])]
    seen, found = set(), []
    while todo:
        path, node = todo.pop()
        if (path, node.lineno) in seen:
            continue
        seen.add((path, node.lineno))
        for inner in ast.walk(node):
            if isinstance(inner, ast.Call):
                todo += named.get(called(inner) or getattr(inner.func, "attr", ""), [])
            elif isinstance(inner, ast.BinOp) and isinstance(inner.op, ast.Mult):
                if isinstance(inner.left, ast.List) or isinstance(inner.right, ast.List):
                    found.append(f"{path}:{inner.lineno}: L28 a product of a list, below an operator")
    return found


def rings_of_imports(package, paths):
    """Return a text for each file that imports from itself by way of others."""
    wants = {}
    for path in paths:
        tree = ast.parse(path.read_text())
        wants[path.stem] = {node.module.split(".")[-1] for node in tree.body
                            if isinstance(node, ast.ImportFrom) and "." in node.module}
    found = []
    for start in wants:
        seen, todo = set(), list(wants[start])
        while todo:
            name = todo.pop()
            if name not in seen:
                seen.add(name)
                todo += wants.get(name, ())
        if start in seen:
            found.append(f"{package / start}.py:0: L16 imports from itself")
    return found


def main():
    """Look at all files of the package that is named."""
    package = pathlib.Path(sys.argv[1])
    paths = sorted(package.glob("*.py"))
    faults = rings_of_imports(package, paths) + products_in_operators(paths)
    for path in paths:
        look = Look(path, package)
        look.text_rules()
        look.module_rules()
        look.node_rules()
        look.table_rules()
        faults += look.faults
    for path in package.iterdir():
        if path.suffix != ".py" and path.name != "__pycache__":
            faults.append(f"{path}:0: L1 only .py files stand in the package")
    print("\n".join(faults) if faults else f"language: {len(paths)} files looked at")
    sys.exit(1 if faults else 0)


if __name__ == "__main__":
    main()
