"""Reading the forms of a text.

A part of a form is a pair of its content and its index in the text. The content
of a word is a string, that of a form is the list of its parts.
"""

from countermarch.errors import TextError
from countermarch.limits import MAX_INTEGER, MAX_SIZE, PRIME
from countermarch.values import is_between, is_name, is_numeral

DECLARATIONS = ("state", "param", "procedure", "beat")
STATEMENTS = ("set", "loop", "if", "call", "let")
EXPRESSIONS = ("at", "add", "sub", "mul", "div")
INDEXES = ("plus", "minus", "times", "rem")
TESTS = ("less", "equal", "zero", "not")

# How many parts a form with this first part has, itself included: the fewest
# and the most, or None where any number may follow.
PARTS = {
    "state": (2, 3), "param": (2, 3), "procedure": (4, None), "beat": (1, None),
    "set": (3, 3), "loop": (3, None), "if": (4, 4), "call": (4, 4), "let": (3, None),
    "at": (3, 3), "add": (3, 3), "sub": (3, 3), "mul": (3, 3), "div": (3, 3),
    "plus": (3, 3), "minus": (3, 3), "times": (3, 3), "rem": (3, 3),
    "less": (3, 3), "equal": (3, 3), "zero": (2, 2), "not": (2, 2),
}


def read_list(part):
    """Return the parts of a form that has any number of them."""
    parts, at = part
    if isinstance(parts, str):
        raise TextError(at)
    return parts


def read_head(part, heads):
    """Return the first part of a form, which is one of the heads, and the parts behind it."""
    parts, at = read_list(part), part[1]
    if not parts:
        raise TextError(at)
    head, head_at = parts[0]
    if head not in heads:
        raise TextError(head_at)
    fewest, most = PARTS[head]
    if len(parts) < fewest or most is not None and len(parts) > most:
        raise TextError(at)
    return head, parts[1:]


def read_declaration(head, parts):
    """Return what a declaration adds to the tree."""
    if head == "beat":
        return read_body(parts)
    if head == "procedure":
        return read_procedure(parts)
    return read_variable(parts)


def read_procedure(parts):
    """Return a procedure from the parts behind its first word."""
    name = read_name(parts[0])
    indexes = tuple([read_name(part) for part in read_list(parts[1])])
    references = tuple([read_reference(part) for part in read_list(parts[2])])
    return name, indexes, references, read_body(parts[3:])


def read_reference(part):
    """Return the variable that a procedure's reference stands for."""
    parts = read_list(part)
    if not 1 <= len(parts) <= 2:
        raise TextError(part[1])
    return read_variable(parts)


def read_variable(parts):
    """Return a variable from a name and perhaps a size."""
    name = read_name(parts[0])
    if len(parts) == 1:
        return name, 0
    return name, read_numeral(parts[1], 1, MAX_SIZE)


def read_name(part):
    """Return the name that a part is."""
    word, at = part
    if not is_name(word):
        raise TextError(at)
    return word


def read_numeral(part, least, most):
    """Return the integer of a numeral that stands for one from the least to the most."""
    word, at = part
    if not is_numeral(word) or not is_between(int(word), least, most):
        raise TextError(at)
    return int(word)


def read_body(parts):
    """Return the body that consists of these statements."""
    return tuple([read_statement(part) for part in parts])


def read_statement(part):
    """Return the tree of a statement."""
    head, parts = read_head(part, STATEMENTS)
    if head == "set":
        return head, read_place(parts[0]), read_expression(parts[1])
    if head == "if":
        first, second = parts[1:]
        return head, read_test(parts[0]), read_body(read_list(first)), read_body(read_list(second))
    name = read_name(parts[0])
    if head == "loop":
        return head, name, read_index(parts[1]), read_body(parts[2:])
    if head == "let":
        return head, name, read_expression(parts[1]), read_body(parts[2:])
    indexes = tuple([read_index(index) for index in read_list(parts[1])])
    return head, name, indexes, tuple([read_name(handed) for handed in read_list(parts[2])])


def read_place(part):
    """Return the place (name, index) that a part names."""
    if isinstance(part[0], str):
        return read_name(part), None
    _, parts = read_head(part, ("at",))
    return read_name(parts[0]), read_index(parts[1])


def read_expression(part):
    """Return the tree of an expression."""
    if is_numeral(part[0]):
        return "number", read_numeral(part, 0, PRIME - 1)
    if isinstance(part[0], str):
        return "place", read_name(part), None
    head, parts = read_head(part, EXPRESSIONS)
    if head == "at":
        return "place", read_name(parts[0]), read_index(parts[1])
    return head, read_expression(parts[0]), read_expression(parts[1])


def read_index(part):
    """Return the tree of an index expression."""
    if part[0] == "beat":
        return ("beat",)
    if is_numeral(part[0]):
        return "integer", read_numeral(part, 0, MAX_INTEGER)
    if isinstance(part[0], str):
        return "index", read_name(part)
    head, parts = read_head(part, INDEXES)
    if head == "rem":
        return head, read_index(parts[0]), read_numeral(parts[1], 1, MAX_INTEGER)
    return head, read_index(parts[0]), read_index(parts[1])


def read_test(part):
    """Return the tree of a test."""
    head, parts = read_head(part, TESTS)
    if head == "zero":
        return head, read_expression(parts[0])
    if head == "not":
        return head, read_test(parts[0])
    return head, read_index(parts[0]), read_index(parts[1])
