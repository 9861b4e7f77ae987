"""Adjoint programs: the forward and the reverse sweep of each body of a program."""

from countermarch.checking import check
from countermarch.errors import TreeError
from countermarch.naming import NewNames
from countermarch.simple import is_simple, simplify

ZERO = ("number", 0)
TRUE = ("equal", ("integer", 0), ("integer", 0))
FALSE = ("not", ("equal", ("integer", 0), ("integer", 0)))


def transform(tree):
    """Return the tape program of a simple tree."""
    if not is_simple(tree):
        raise TreeError((), "simple")
    state, params, procedures, beat = tree
    kept_name = NewNames(tree).take()
    names = NewNames(tree)
    swept = []
    for name, integers, references, body in procedures:
        swept.append((("forward", name), integers, references, forward_body(body, kept_name)))
        swept.append((("reverse", name), integers, references, reverse_body(body, names)))
    forward_beat = forward_body(beat, kept_name)
    return state, params, tuple(swept), forward_beat, reverse_body(beat, names)


def make_adjoint(tree):
    """Return the adjoint (tree, simple, tape) of a program."""
    check(tree)
    simple = simplify(tree)
    return tree, simple, transform(simple)


def forward_body(body, kept_name):
    """Return the forward forms of the statements of a body, joined in their order.

    The name is that of the local variable that keeps a quotient.
    """
    swept = ()
    for statement in body:
        swept += forward_statement(statement, kept_name)
    return swept


def forward_statement(statement, kept_name):
    """Return the forward form of a statement."""
    head = statement[0]
    if head == "set":
        return forward_set(statement, kept_name)
    if head == "let":
        _, name, expression, body = statement
        push = ("push", ("place", name, None))
        return (("let", name, expression, forward_body(body, kept_name) + (push,)),)
    if head == "loop":
        _, name, count, body = statement
        return (("loop", name, count, forward_body(body, kept_name)),)
    if head == "if":
        _, test, first, second = statement
        marked_first = forward_body(first, kept_name) + (("mark", TRUE),)
        marked_second = forward_body(second, kept_name) + (("mark", FALSE),)
        return (("if", test, marked_first, marked_second),)
    return (call_swept("forward", statement),)


def forward_set(statement, kept_name):
    """Return the forward form of a set statement."""
    _, place, expression = statement
    push = ("push", ("place",) + place)
    if expression[0] != "div":
        return push, statement
    # A division by 0 is found before an index of the place is.
    body = (push, ("set", place, ("place", kept_name, None)))
    return (("let", kept_name, expression, body),)


def call_swept(direction, statement):
    """Return the call of a procedure's sweep."""
    head, name, indexes, handed = statement
    return head, (direction, name), indexes, handed


def reverse_body(body, names):
    """Return the reverse forms of the statements of a body, joined in the opposite order."""
    swept = ()
    for statement in reversed(body):
        swept += reverse_statement(statement, names)
    return swept


def reverse_statement(statement, names):
    """Return the reverse form of a statement."""
    head = statement[0]
    if head == "set":
        return (reverse_set(statement, names),)
    if head == "let":
        return (reverse_let(statement, names),)
    if head == "loop":
        _, name, count, body = statement
        return (("down", name, count, reverse_body(body, names)),)
    if head == "if":
        first = reverse_body(statement[2], names)
        return (("ifmark", first, reverse_body(statement[3], names)),)
    return (call_swept("reverse", statement),)


def reverse_set(statement, names):
    """Return the reverse form of a set statement."""
    _, place, expression = statement
    bar = ("bar",) + place
    bar_name = names.take()
    v = ("place", bar_name, None)
    restore = (("set", bar, ZERO), ("pop", place))
    if expression[0] != "div":
        return "let", bar_name, bar, restore + contributions(expression, v, None, None)
    value_name = names.take()
    w = ("place", value_name, None)
    body = restore + contributions(expression, v, w, take_quotient_name(expression, names))
    return "let", bar_name, bar, (("let", value_name, ("place",) + place, body),)


def reverse_let(statement, names):
    """Return the reverse form of a let statement."""
    head, name, expression, body = statement
    swept = (("pop", (name, None)),) + reverse_body(body, names)
    v, w = ("bar", name, None), ("place", name, None)
    return head, name, ZERO, swept + contributions(expression, v, w, take_quotient_name(expression, names))


def take_quotient_name(expression, names):
    """Return a new name if the contributions of an expression need one, otherwise None."""
    return names.take() if divides_by_place(expression) else None


def divides_by_place(expression):
    """Tell whether an expression is a division by a place."""
    return expression[0] == "div" and expression[2][0] == "place"


def contributions(expression, v, w, q):
    """Return the statements that add the effect of the derivative v of an expression.

    They add it to the bars of the operands; w is the value of the expression,
    and q is the name of the variable for a quotient.
    """
    op = expression[0]
    if op == "number":
        return ()
    if op == "place":
        return change_bar("add", expression, v)
    _, left, right = expression
    if op == "add":
        return change_bar("add", left, v) + change_bar("add", right, v)
    if op == "sub":
        return change_bar("add", left, v) + change_bar("sub", right, v)
    if op == "mul":
        return change_bar("add", left, ("mul", v, right)) + change_bar("add", right, ("mul", v, left))
    if not divides_by_place(expression):
        return change_bar("add", left, ("div", v, right))
    quotient = ("place", q, None)
    body = change_bar("add", left, quotient) + change_bar("sub", right, ("mul", quotient, w))
    return (("let", q, ("div", v, right), body),)


def change_bar(op, operand, change):
    """Return the statement that changes the bar of an operand, or none for a number."""
    if operand[0] == "number":
        return ()
    bar = ("bar",) + operand[1:]
    return (("set", bar, (op, bar, change)),)
