"""Single values: which of them are integers, which are names, and which are numerals."""

LETTERS = "abcdefghijklmnopqrstuvwxyz"
LETTERS_AND_DIGITS = "abcdefghijklmnopqrstuvwxyz0123456789"
DIGITS = "0123456789"
LONGEST_NAME = 8
LONGEST_NUMERAL = 10
RESERVED = (
    "state", "param", "procedure", "beat", "set", "loop", "if", "call", "let", "at",
    "add", "sub", "mul", "div", "plus", "minus", "times", "rem",
    "less", "equal", "zero", "not",
)


def is_integer(value):
    """Tell whether a value is an integer; a boolean is none."""
    return isinstance(value, int) and not isinstance(value, bool)


def is_between(value, least, most):
    """Tell whether a value is an integer from the least to the most."""
    return is_integer(value) and least <= value <= most


def is_name(value):
    """Tell whether a value is a name of programs."""
    if not isinstance(value, str) or not 1 <= len(value) <= LONGEST_NAME:
        return False
    if value[0] not in LETTERS or value in RESERVED:
        return False
    return all([character in LETTERS_AND_DIGITS for character in value])


def is_numeral(value):
    """Tell whether a value is a numeral: 0, or up to ten digits that do not begin with 0."""
    if not isinstance(value, str) or not 1 <= len(value) <= LONGEST_NUMERAL:
        return False
    if value[0] == "0" and value != "0":
        return False
    return all([character in DIGITS for character in value])
