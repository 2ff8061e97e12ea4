"""What a property or an operator reaches, told by the names of what is called alone, and whether it changes something (L5)."""

import ast

# The methods of builtin values (L25, L26) that change what they are called on, and those that do not.
MODIFYING = "append clear extend insert pop remove reverse setdefault update add discard sort".split()
READING = ("copy count endswith find get index isalnum isalpha isdigit islower isspace isupper items join keys ljust lower "
           "lstrip partition replace rfind rjust rpartition rsplit rstrip split splitlines startswith strip upper values zfill "
           "bit_length").split()
FRESH_CALLS = ("list", "dict", "set", "sorted")
IN_PLACE = [f"__i{name}__" for name in "add sub mul floordiv mod pow and or xor lshift rshift".split()]
# These double-underscore methods may change something; all others are operators and the like.
MAY_CHANGE = ["__init__", "__call__", "__setitem__", "__enter__", "__exit__", *IN_PLACE]


class Part:
    """A function or method: its file, the class around it (or None), and its tree."""

    def __init__(self, file, owner, node):
        self.file, self.owner, self.node, self.name = file, owner, node, node.name
        self.marks = [getattr(mark, "id", getattr(mark, "attr", "")) for mark in node.decorator_list]

    def __str__(self):
        return f"{self.file}: {self.owner.name + '.' if self.owner else ''}{self.name}"

    def nodes(self, *kinds):
        return [node for row in self.node.body for node in ast.walk(row) if isinstance(node, kinds)]

    def parameters(self):
        given = self.node.args
        named = given.posonlyargs + given.args + given.kwonlyargs
        return {arg.arg for arg in named + [arg for arg in (given.vararg, given.kwarg) if arg]}

    def local_names(self):
        return self.parameters() | {node.id for node in self.nodes(ast.Name) if not isinstance(node.ctx, ast.Load)}

    def is_root(self):
        """Tell whether nothing may change when this runs: a property that is read, an operator or the like."""
        is_double = self.name.startswith("__") and self.name.endswith("__")
        return "property" in self.marks or (self.owner is not None and is_double and self.name not in MAY_CHANGE)


def is_fresh(value):
    """Tell whether an expression surely gives a new list, dict or set."""
    if isinstance(value, ast.Call):
        return getattr(value.func, "id", "") in FRESH_CALLS or getattr(value.func, "attr", "") == "copy"
    if isinstance(value, ast.Subscript):
        return isinstance(value.slice, ast.Slice)
    if isinstance(value, ast.BinOp) and isinstance(value.op, (ast.Add, ast.Mult)):
        return is_fresh(value.left) or is_fresh(value.right)
    return isinstance(value, (ast.List, ast.Dict, ast.Set, ast.ListComp, ast.DictComp, ast.SetComp))


def fresh_names(part):
    """Return the local variables that are only ever assigned new lists, dicts and sets, by plain assignments."""
    if part.nodes(ast.Yield, ast.YieldFrom, ast.Lambda, ast.FunctionDef, ast.GeneratorExp):
        return set()
    plain = [(goal, node.value) for node in part.nodes(ast.Assign) for goal in node.targets if isinstance(goal, ast.Name)]
    fresh = {goal for goal, value in plain if is_fresh(value)}
    other = {node.id for node in part.nodes(ast.Name) if isinstance(node.ctx, ast.Store) and node not in fresh}
    return {goal.id for goal in fresh} - other - part.parameters()


def is_own_attribute(part, node):
    """Tell whether node is an attribute of the object that an __init__ makes."""
    if part.name != "__init__" or not isinstance(node, ast.Attribute):
        return False
    return isinstance(node.value, ast.Name) and node.value.id == part.node.args.args[0].arg


def rows_of_stores(part, fresh):
    """Return the rows that assign or delete an attribute or an item of what the function did not create."""
    rows = [node.lineno for node in part.nodes(ast.Nonlocal, ast.Global)]
    for node in part.nodes(ast.Attribute, ast.Subscript):
        if not isinstance(node.ctx, ast.Load):
            holder = node if isinstance(node, ast.Attribute) else node.value
            if not is_own_attribute(part, holder) and getattr(holder, "id", "") not in fresh:
                rows.append(node.lineno)
    for node in part.nodes(ast.AugAssign):
        is_whole = isinstance(node.value, ast.Constant) and isinstance(node.value.value, int)
        if isinstance(node.target, ast.Name) and not is_whole:
            rows.append(node.lineno)
    return rows


def rows_of_calls(part, fresh, methods):
    """Return the rows that modify what the function did not create, or call what it is passed or holds."""
    rows, local = [], part.local_names()
    for node in part.nodes(ast.Call):
        if isinstance(node.func, ast.Attribute):
            name, holder = node.func.attr, node.func.value
            is_known = name in methods or name in READING or name.startswith("__")
            if name in MODIFYING:
                is_known = getattr(holder, "id", "") in fresh or is_own_attribute(part, holder)
        else:
            is_known = isinstance(node.func, ast.Name) and node.func.id not in local and node.func.id != "setattr"
        keys = [word.value.id for word in node.keywords if word.arg == "key" and isinstance(word.value, ast.Name)]
        if not is_known or set(keys) & local:
            rows.append(node.lineno)
    return rows


class Package:
    """All functions and methods of some files, found by their names."""

    def __init__(self, files):
        """files is a list of pairs of a name and a text."""
        self.parts, self.classes = [], {}
        for file, text in files:
            for node in ast.parse(text).body:
                if isinstance(node, ast.FunctionDef):
                    self.parts.append(Part(file, None, node))
                if isinstance(node, ast.ClassDef):
                    self.classes[node.name] = node
                    self.parts.extend([Part(file, node, row) for row in node.body if isinstance(row, ast.FunctionDef)])
        self.methods = {part.name for part in self.parts if part.owner}

    def changed_by(self, part):
        """Return the rows at which a function or method itself does what a property or an operator must not."""
        fresh = fresh_names(part)
        return sorted(set(rows_of_stores(part, fresh) + rows_of_calls(part, fresh, self.methods)))

    def made_by(self, name):
        """Return the __init__ methods that may run when an object of a class is made."""
        bases = [base.id for base in self.classes[name].bases if isinstance(base, ast.Name) and base.id in self.classes]
        own = [part for part in self.parts if part.owner is self.classes[name] and part.name == "__init__"]
        return own + [part for base in bases for part in self.made_by(base)]

    def called_by(self, part):
        """Return all that a function or method may call; of a method the name is all that counts, whatever its class."""
        found, local = [], part.local_names()
        for node in part.nodes(ast.Attribute):
            if node.attr != "__init__" and isinstance(node.ctx, ast.Load):
                found.extend([other for other in self.parts
                              if other.owner and other.name == node.attr and "setter" not in other.marks])
        for node in part.nodes(ast.Name):
            if node.id not in local:
                found.extend([other for other in self.parts if not other.owner and other.name == node.id])
        for node in part.nodes(ast.Call):
            if getattr(node.func, "id", "") in self.classes:
                found.extend(self.made_by(node.func.id))
        return found

    def reached_from(self, root):
        """Return tuples of what a root reaches and the names on the way, the root itself first."""
        ways, rest = {root: [root.name]}, [root]
        while rest:
            part = rest.pop()
            for other in self.called_by(part):
                if other not in ways:
                    ways[other] = ways[part] + [other.name]
                    rest.append(other)
        return list(ways.items())

    def roots(self):
        return [part for part in self.parts if part.is_root()]

    def faults(self):
        """Return a text for each way from a root to what changes something, or calls what it is passed or holds."""
        return [f"{root}, row {root.node.lineno}: by {' > '.join(way)} to {part}, rows {self.changed_by(part)}"
                for root in self.roots() for part, way in self.reached_from(root) if self.changed_by(part)]
