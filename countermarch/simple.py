"""Simple programs: every operation stands alone in a statement of its own."""

from countermarch.naming import NewNames
from countermarch.trees import bodies_of, inner_bodies

LEAVES = ("number", "place")


def is_simple(tree):
    """Tell whether all statements of a tree are simple."""
    return all([is_simple_body(body) for _, _, body in bodies_of(tree)])


def simplify(tree):
    """Return a simple tree with the same meaning."""
    if is_simple(tree):
        return tree
    state, params, procedures, beat = tree
    names = NewNames(tree)
    simple = []
    for name, integers, references, body in procedures:
        simple.append((name, integers, references, simplify_body(body, names)))
    return state, params, tuple(simple), simplify_body(beat, names)


def count_operations(body):
    """Return the number of operations in the expressions of a body and of all bodies inside."""
    count = 0
    for statement in body:
        expression = expression_of(statement)
        if expression is not None:
            count += operations_in(expression)
        count += sum([count_operations(inner) for inner in inner_bodies(statement)])
    return count


def expression_of(statement):
    """Return the expression that a statement sets, lets or tests, or None."""
    if statement[0] in ("set", "let"):
        return statement[2]
    return tested_expression(statement[1]) if statement[0] == "if" else None


def tested_expression(test):
    """Return the expression that a test compares with 0, or None."""
    while test[0] == "not":
        test = test[1]
    return test[1] if test[0] == "zero" else None


def operations_in(expression):
    """Return the number of operations in an expression."""
    if expression[0] in LEAVES:
        return 0
    return 1 + operations_in(expression[1]) + operations_in(expression[2])


def is_simple_body(body):
    """Tell whether all statements of a body are simple, and all inside of them."""
    for statement in body:
        if not is_simple_statement(statement):
            return False
        if not all([is_simple_body(inner) for inner in inner_bodies(statement)]):
            return False
    return True


def is_simple_statement(statement):
    """Tell whether a statement, inner bodies aside, is simple."""
    expression = expression_of(statement)
    if expression is None:
        return True
    if statement[0] == "if":
        return expression[0] == "place"
    return operations_in(expression) <= 1


def simplify_body(body, names):
    """Return the body of the simplified statements."""
    return tuple([simplify_statement(statement, names) for statement in body])


def simplify_statement(statement, names):
    """Return a statement whose operands and tested expressions have local variables."""
    head = statement[0]
    lets = []
    if head == "set":
        simple = (head, statement[1], name_operands(statement[2], names, lets))
    elif head == "let":
        expression = name_operands(statement[2], names, lets)
        simple = (head, statement[1], expression, simplify_body(statement[3], names))
    elif head == "if":
        test = simplify_test(statement[1], names, lets)
        simple = (head, test, simplify_body(statement[2], names), simplify_body(statement[3], names))
    elif head == "loop":
        simple = (head, statement[1], statement[2], simplify_body(statement[3], names))
    else:
        simple = statement
    for name, expression in reversed(lets):
        simple = ("let", name, expression, (simple,))
    return simple


def simplify_test(test, names, lets):
    """Return a test in which a tested expression that is no place has a local variable."""
    if test[0] == "not":
        return "not", simplify_test(test[1], names, lets)
    if test[0] != "zero" or test[1][0] == "place":
        return test
    return "zero", name_expression(test[1], names, lets)


def name_operands(expression, names, lets):
    """Return an expression whose operands that are operations have local variables."""
    if expression[0] in LEAVES:
        return expression
    op, left, right = expression
    first = left if left[0] in LEAVES else name_expression(left, names, lets)
    second = right if right[0] in LEAVES else name_expression(right, names, lets)
    return op, first, second


def name_expression(expression, names, lets):
    """Add a let for an expression, behind those for its operands; return its variable."""
    simple = name_operands(expression, names, lets)
    name = names.take()
    lets.append((name, simple))
    return "place", name, None
