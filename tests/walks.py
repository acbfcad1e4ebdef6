"""What loops and comprehensions of a file walk, and what they may walk: two rules of the subset of the language."""

import ast

CHANGING = {
    "append", "extend", "insert", "pop", "remove", "update", "clear", "setdefault", "reverse", "sort", "appendleft",
    "popleft"}
NEW = {"list", "sorted", "range", "tuple", "dict", "set"}
COMPREHENSIONS = (ast.ListComp, ast.SetComp, ast.DictComp, ast.GeneratorExp)
UNWALKED = {"zip", "enumerate", "reversed", "range"}
VIEWS = {"items", "keys", "values"}
WALKING = {"list", "tuple", "dict", "sorted", "sum", "any", "all", "enumerate", "zip"}


def is_new(node):
    """True for a value that is nothing else: a literal, a comprehension, a copy."""
    if isinstance(node, (ast.List, ast.Tuple, ast.Dict, ast.ListComp, ast.DictComp)):
        return True
    if isinstance(node, ast.BinOp) and isinstance(node.op, ast.Mult):
        return isinstance(node.left, ast.List)
    return isinstance(node, ast.Call) and isinstance(node.func, ast.Name) and node.func.id in NEW


def branches(node):
    """The values that this expression may be, as far as they are written there."""
    if isinstance(node, ast.IfExp):
        return branches(node.body) + branches(node.orelse)
    if isinstance(node, (ast.BoolOp, ast.Tuple)):
        return [one for part in (node.values if isinstance(node, ast.BoolOp) else node.elts) for one in branches(part)]
    return [node]


def own_lists(function):
    """The local names that are only ever new lists and dicts, and are given to no other name and no field."""
    fine, other = set(), {arg.arg for arg in ast.walk(function.args) if isinstance(arg, ast.arg)}
    for node in ast.walk(function):
        if isinstance(node, ast.Assign):
            other |= {one.id for one in branches(node.value) if isinstance(one, ast.Name)}
            for target in node.targets:
                for part in ast.walk(target):
                    if isinstance(part, ast.Name) and isinstance(part.ctx, ast.Store):
                        (fine if target is part and is_new(node.value) else other).add(part.id)
        elif isinstance(node, ast.For):
            other |= {part.id for part in ast.walk(node.target) if isinstance(part, ast.Name)}
    return fine - other


def walks(function):
    """For each loop and comprehension its row, what it walks, and what is worked out while it walks."""
    for node in ast.walk(function):
        if isinstance(node, ast.For):
            yield node.lineno, [node.iter], node.body + node.orelse
        elif isinstance(node, COMPREHENSIONS):
            heads = [part.iter for part in node.generators]
            tests = [test for part in node.generators for test in part.ifs]
            given = [node.key, node.value] if isinstance(node, ast.DictComp) else [node.elt]
            yield node.lineno, heads, heads[1:] + tests + given


def changed_in(nodes):
    """What is changed there: a name, a field, an item, or what a call gives."""
    for part in [one for node in nodes for one in ast.walk(node)]:
        if isinstance(part, ast.Call) and isinstance(part.func, ast.Attribute) and part.func.attr in CHANGING:
            yield part.func.value
        elif isinstance(part, ast.Call) and isinstance(part.func, ast.Name) and part.func.id.startswith("heap"):
            yield part.args[0]
        elif isinstance(part, ast.Subscript) and isinstance(part.ctx, (ast.Store, ast.Del)):
            yield part.value


def old_walks(function):
    """The rows of walks over what may be a list that is changed meanwhile.

    An item of an own list is not itself an own list: it may be the very list that is walked.
    """
    fine = own_lists(function)
    for row, heads, nodes in walks(function):
        if not all(is_new(head) for head in heads):
            if not all(isinstance(root, ast.Name) and root.id in fine for root in changed_in(nodes)):
                yield row


def parents_in(tree):
    """From each node to the one above it."""
    return {child: node for node in ast.walk(tree) for child in ast.iter_child_nodes(node)}


def kind_of(node):
    """The word for a range, zip, enumerate, reversed or view that is made here; None for anything else."""
    if not isinstance(node, ast.Call):
        return None
    if isinstance(node.func, ast.Name) and node.func.id in UNWALKED:
        return node.func.id
    return node.func.attr if isinstance(node.func, ast.Attribute) and node.func.attr in VIEWS else None


def is_walked(node, above, kind):
    """True if what is above the node walks it on the spot, or asks of it what may be asked."""
    if isinstance(above, (ast.For, ast.comprehension)):
        return above.iter is node
    if isinstance(above, ast.Compare):
        is_in = len(above.ops) == 1 and isinstance(above.ops[0], (ast.In, ast.NotIn))
        return is_in and above.comparators[0] is node and kind in ("range", "keys")
    if not isinstance(above, ast.Call) or above.args[:1] != [node]:
        return False
    if isinstance(above.func, ast.Attribute):
        return above.func.attr == "join" and isinstance(above.func.value, ast.Constant)
    word = above.func.id if isinstance(above.func, ast.Name) else ""
    if word in ("min", "max"):
        return len(above.args) == 1 and all(told.arg == "default" for told in above.keywords)
    if word == "len":
        return kind == "range" or kind in VIEWS
    return word in WALKING or (word == "reversed" and kind == "range")


def function_around(node, parents):
    """The innermost function that the node stands in; None if there is none."""
    while node in parents:
        node = parents[node]
        if isinstance(node, ast.FunctionDef):
            return node
    return None


def kept_well(node, parents):
    """True for a range that a plain local name keeps, assigned once, and that is walked wherever the name stands."""
    above = parents[node]
    function = function_around(node, parents)
    if kind_of(node) != "range" or not isinstance(above, ast.Assign) or function is None:
        return False
    if len(above.targets) != 1 or not isinstance(above.targets[0], ast.Name):
        return False
    uses = [part for part in ast.walk(function) if isinstance(part, ast.Name) and part.id == above.targets[0].id]
    for part in uses:
        if isinstance(part.ctx, ast.Store):
            if part is not above.targets[0]:
                return False
            continue
        is_item = isinstance(parents[part], ast.Subscript) and parents[part].value is part
        if function_around(part, parents) is not function or not (is_item or is_walked(part, parents[part], "range")):
            return False
    return True


def left_unwalked(tree):
    """The rows at which a range, zip, enumerate, reversed or view is made that is not walked on the spot."""
    parents = parents_in(tree)
    for node in ast.walk(tree):
        kind = kind_of(node)
        if kind is not None and not is_walked(node, parents[node], kind) and not kept_well(node, parents):
            yield node.lineno
