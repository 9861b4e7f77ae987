"""Checking which trees are programs, and what their declarations mean."""

from countermarch.errors import TreeError
from countermarch.limits import MAX_CELLS, MAX_DEPTH, MAX_HANDED, MAX_NODES, MAX_PROCEDURES
from countermarch.scopes import Scope
from countermarch.trees import bodies_of, inner_bodies, parts_of

NODES = ("statement", "expression", "index", "test")


def check(tree):
    """Return None if the tree is a program, and raise TreeError otherwise."""
    if not has_shape(tree):
        raise TreeError((), "shape")
    if not keeps_limits(tree):
        raise TreeError((), "limits")
    check_declared_names(tree)
    check_heads(tree)
    for number, (integers, variables, body) in enumerate(bodies_of(tree)):
        check_body(body, (number,), Scope(tree, number, variables, integers))


def cells(declarations):
    """Return the number of cells of the variables that are declared."""
    return sum([max(1, size) for _, size in declarations])


def layout(declarations):
    """Return the triples (name, first cell, size) of the variables that are declared."""
    triples = []
    first = 0
    for name, size in declarations:
        triples.append((name, first, size))
        first += max(1, size)
    return tuple(triples)


def variables_at(tree, path):
    """Return the pairs (name, size) of the variables in scope at a statement."""
    _, variables, body = bodies_of(tree)[path[0]]
    lets = []
    for at, number in zip(path[1::2], path[2::2]):
        statement = body[at]
        if statement[0] == "let":
            lets.append((statement[1], 0))
        body = inner_bodies(statement)[number]
    return variables + tuple(lets)


def has_shape(tree):
    """Tell whether a value has the form of a tree."""
    waiting = [("tree", tree)]
    while waiting:
        kind, value = waiting.pop()
        parts = parts_of(kind, value)
        if parts is None:
            return False
        waiting += parts
    return True


def keeps_limits(tree):
    """Tell whether a tree with the right shape exceeds no limit."""
    state, params, procedures, _ = tree
    if not 1 <= cells(state) <= MAX_CELLS or cells(params) > MAX_CELLS:
        return False
    if len(procedures) > MAX_PROCEDURES:
        return False
    for _, integers, references, _ in procedures:
        if len(integers) > MAX_HANDED or len(references) > MAX_HANDED:
            return False
    return keeps_node_limits(tree)


def keeps_node_limits(tree):
    """Tell whether the nodes of a tree are not too many and not nested too deep."""
    count = 0
    # A node is nested in the node around it only if both are of the same kind.
    waiting = [("tree", tree, None, 0)]
    while waiting:
        kind, value, around, depth = waiting.pop()
        if kind in NODES:
            depth = depth + 1 if kind == around else 1
            around = kind
            count += 1
        if depth > MAX_DEPTH or count > MAX_NODES:
            return False
        waiting += [(inner, part, around, depth) for inner, part in parts_of(kind, value)]
    return True


def check_declared_names(tree):
    """Refuse a tree in which two declarations have the same name."""
    state, params, procedures, _ = tree
    if not are_distinct(first_items(state + params + procedures)):
        raise TreeError((), "names")


def check_heads(tree):
    """Refuse a tree if the head of a procedure has a name twice, or one that is taken."""
    _, params, procedures, _ = tree
    taken = first_items(params + procedures)
    for number, (_, integers, references, _) in enumerate(procedures):
        if not are_distinct(list(integers) + first_items(references) + taken):
            raise TreeError((number,), "names")


def first_items(rows):
    """Return the names of variables or of procedures."""
    return [row[0] for row in rows]


def are_distinct(names):
    """Tell whether no name occurs twice."""
    return len(set(names)) == len(names)


def check_body(body, path, scope):
    """Refuse a body if one of its statements is wrong, or one inside these."""
    for at, statement in enumerate(body):
        here = path + (at,)
        reason = scope.find_reason(statement)
        if reason is not None:
            raise TreeError(here, reason)
        scope.enter(statement)
        for number, inner in enumerate(inner_bodies(statement)):
            check_body(inner, here + (number,), scope)
        scope.leave(statement)
