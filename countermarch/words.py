"""Program texts: their words, and how texts and trees turn into each other."""

from countermarch.errors import TextError
from countermarch.limits import MAX_FORMS, MAX_TEXT
from countermarch.reading import DECLARATIONS, read_declaration, read_head
from countermarch.writing import write_form, write_procedure, write_statements, write_variable

SPACE = 32
TILDE = 126
PERCENT = 37


def split_words(text):
    """Return the words of a text, each in a pair with its index."""
    check_characters(text)
    words = []
    start = 0
    for at, character in enumerate(text + " "):
        if character in " \n()":
            if start < at:
                words.append((text[start:at], start))
            if character in "()":
                words.append((character, at))
            start = at + 1
    return words


def check_characters(text):
    """Refuse a text that is too long or has a character that texts do not have."""
    if len(text) > MAX_TEXT:
        raise TextError(0)
    for at, character in enumerate(text):
        if not is_text_character(character):
            raise TextError(at)


def is_text_character(character):
    """Tell whether a program text may contain a character."""
    number = ord(character)
    return character == "\n" or SPACE <= number <= TILDE and number != PERCENT


def read_program(text):
    """Return the tree of a program text."""
    found = {"state": [], "param": [], "procedure": [], "beat": []}
    allowed = DECLARATIONS
    for form in read_forms(split_words(text), len(text)):
        head, parts = read_head(form, allowed)
        found[head].append(read_declaration(head, parts))
        allowed = declarations_behind(head)
    if not found["beat"]:
        raise TextError(len(text))
    return tuple(found["state"]), tuple(found["param"]), tuple(found["procedure"]), found["beat"][0]


def read_forms(words, length):
    """Return the forms of a text that stand in no other form.

    A part of a form is a pair of its content and its index in the text. The
    content of a word is a string, that of a form is the list of its parts.
    """
    outermost, around = [], []
    for word, at in words:
        parts = around[-1] if around else outermost
        if word == "(":
            if len(around) == MAX_FORMS:
                raise TextError(at)
            form = []
            parts.append((form, at))
            around.append(form)
        elif not around:
            raise TextError(at)
        elif word == ")":
            around.pop()
        else:
            parts.append((word, at))
    if around:
        raise TextError(length)
    return outermost


def declarations_behind(head):
    """Return the first parts that a declaration behind this one may have."""
    if head == "beat":
        return ()
    return DECLARATIONS[DECLARATIONS.index(head):]


def write_program(tree):
    """Return the text of a tree, with one declaration in each line."""
    state, params, procedures, beat = tree
    lines = [write_form(["state"] + write_variable(variable)) for variable in state]
    lines += [write_form(["param"] + write_variable(variable)) for variable in params]
    lines += [write_procedure(procedure) for procedure in procedures]
    lines.append(write_form(["beat"] + write_statements(beat)))
    return "\n".join(lines)
