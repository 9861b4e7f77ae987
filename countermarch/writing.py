"""Writing the forms of a text."""


def write_form(parts):
    """Return the text of a form with these parts."""
    return "(" + " ".join(parts) + ")"


def write_variable(variable):
    """Return the parts of a form that declare a variable."""
    name, size = variable
    return [name] if size == 0 else [name, str(size)]


def write_procedure(procedure):
    """Return the text of a procedure."""
    name, indexes, references, body = procedure
    written = [write_form(write_variable(reference)) for reference in references]
    head = ["procedure", name, write_form(indexes), write_form(written)]
    return write_form(head + write_statements(body))


def write_statements(body):
    """Return the texts of the statements of a body."""
    return [write_statement(statement) for statement in body]


def write_statement(statement):
    """Return the text of a statement."""
    head = statement[0]
    if head == "set":
        return write_form([head, write_place(statement[1]), write_expression(statement[2])])
    if head == "if":
        bodies = [write_form(write_statements(body)) for body in statement[2:]]
        return write_form([head, write_test(statement[1])] + bodies)
    if head == "call":
        indexes = write_form([write_index(index) for index in statement[2]])
        return write_form([head, statement[1], indexes, write_form(statement[3])])
    if head == "loop":
        value = write_index(statement[2])
    else:
        value = write_expression(statement[2])
    return write_form([head, statement[1], value] + write_statements(statement[3]))


def write_place(place):
    """Return the text of a place."""
    name, index = place
    return name if index is None else write_form(["at", name, write_index(index)])


def write_expression(expression):
    """Return the text of an expression."""
    head = expression[0]
    if head == "number":
        return str(expression[1])
    if head == "place":
        return write_place(expression[1:])
    return write_form([head, write_expression(expression[1]), write_expression(expression[2])])


def write_index(index):
    """Return the text of an index expression."""
    head = index[0]
    if head == "beat":
        return head
    if head == "integer" or head == "index":
        return str(index[1])
    right = str(index[2]) if head == "rem" else write_index(index[2])
    return write_form([head, write_index(index[1]), right])


def write_test(test):
    """Return the text of a test."""
    head = test[0]
    if head == "zero":
        return write_form([head, write_expression(test[1])])
    if head == "not":
        return write_form([head, write_test(test[1])])
    return write_form([head, write_index(test[1]), write_index(test[2])])
