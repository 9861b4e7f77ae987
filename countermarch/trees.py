"""The forms of trees: of which parts each of them consists."""

from countermarch.limits import MAX_INTEGER, MAX_SIZE, PRIME
from countermarch.values import is_between, is_name

# Tuples of any length, whose items are all of one kind.
ROWS = {
    "variables": "variable", "procedures": "procedure", "names": "name",
    "body": "statement", "indexes": "index",
}

# Tuples whose items have these kinds.
RECORDS = {
    "tree": ("variables", "variables", "procedures", "body"),
    "variable": ("name", "size"),
    "procedure": ("name", "names", "variables", "body"),
    "place": ("name", "subscript"),
}

# Tuples that begin with a word; the items behind it have these kinds.
FORMS = {
    ("statement", "set"): ("place", "expression"),
    ("statement", "loop"): ("name", "index", "body"),
    ("statement", "if"): ("test", "body", "body"),
    ("statement", "call"): ("name", "indexes", "names"),
    ("statement", "let"): ("name", "expression", "body"),
    ("expression", "number"): ("number",),
    ("expression", "place"): ("name", "subscript"),
    ("expression", "add"): ("expression", "expression"),
    ("expression", "sub"): ("expression", "expression"),
    ("expression", "mul"): ("expression", "expression"),
    ("expression", "div"): ("expression", "expression"),
    ("index", "integer"): ("integer",),
    ("index", "index"): ("name",),
    ("index", "beat"): (),
    ("index", "plus"): ("index", "index"),
    ("index", "minus"): ("index", "index"),
    ("index", "times"): ("index", "index"),
    ("index", "rem"): ("index", "divisor"),
    ("test", "less"): ("index", "index"),
    ("test", "equal"): ("index", "index"),
    ("test", "zero"): ("expression",),
    ("test", "not"): ("test",),
}


def parts_of(kind, value):
    """Return the parts of a value of this kind, each in a pair (kind, part).

    The result is None if the value, parts aside, does not have the form of its kind.
    """
    if kind == "subscript":
        return [] if value is None else [("index", value)]
    if kind in ("name", "size", "number", "integer", "divisor"):
        return [] if is_plain(kind, value) else None
    if not isinstance(value, tuple):
        return None
    if kind in ROWS:
        return [(ROWS[kind], part) for part in value]
    if kind in RECORDS:
        return pair_up(RECORDS[kind], value)
    return parts_of_form(kind, value)


def is_plain(kind, value):
    """Tell whether a value without parts is of this kind."""
    if kind == "name":
        return is_name(value)
    if kind == "size":
        return is_between(value, 0, MAX_SIZE)
    if kind == "number":
        return is_between(value, 0, PRIME - 1)
    return is_between(value, 1 if kind == "divisor" else 0, MAX_INTEGER)


def parts_of_form(kind, value):
    """Return the parts behind the first word of a tuple, or None as parts_of does."""
    if not value or not isinstance(value[0], str):
        return None
    kinds = FORMS.get((kind, value[0]))
    return None if kinds is None else pair_up(kinds, value[1:])


def pair_up(kinds, parts):
    """Return the pairs of kinds and parts, or None if they are not equally many."""
    return list(zip(kinds, parts)) if len(kinds) == len(parts) else None


def inner_bodies(statement):
    """Return the bodies inside a statement."""
    return [part for kind, part in parts_of("statement", statement) if kind == "body"]


def bodies_of(tree):
    """Return all bodies, those of the procedures first and then the beat's.

    Each is a triple of the names of its integers, the variables that are
    declared for it, and the body itself.
    """
    state, params, procedures, beat = tree
    triples = [(indexes, references + params, body) for _, indexes, references, body in procedures]
    return triples + [((), state + params, beat)]
