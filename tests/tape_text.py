"""Reads the statements of tape programs, so that tests can write what they expect as a text.

Beside the forms of program texts there are (push E), (pop PLACE), (mark T), (ifmark (S ..) (S ..)) and
(down NAME I S ..). (bar NAME) and (bar NAME I) are bars, and a call names (forward NAME) or (reverse NAME).
"""


def read_tape_body(text):
    """Return the body whose statements a text writes."""
    words = text.replace("(", " ( ").replace(")", " ) ").split()
    words.reverse()
    forms = []
    while words:
        forms.append(read_form(words))
    return body_of(forms)


def read_form(words):
    word = words.pop()
    if word != "(":
        return word
    parts = []
    while words[-1] != ")":
        parts.append(read_form(words))
    words.pop()
    return parts


def body_of(forms):
    return tuple(statement_of(*form) for form in forms)


def statement_of(head, *parts):
    if head == "set":
        return head, place_of(parts[0]), expression_of(parts[1])
    if head == "let":
        return head, parts[0], expression_of(parts[1]), body_of(parts[2:])
    if head in ("loop", "down"):
        return head, parts[0], index_of(parts[1]), body_of(parts[2:])
    if head == "if":
        return head, test_of(parts[0]), body_of(parts[1]), body_of(parts[2])
    if head == "ifmark":
        return head, body_of(parts[0]), body_of(parts[1])
    if head == "call":
        return head, tuple(parts[0]), tuple(index_of(part) for part in parts[1]), tuple(parts[2])
    return head, {"push": expression_of, "pop": place_of, "mark": test_of}[head](parts[0])


def place_of(form):
    if isinstance(form, str):
        return form, None
    if form[0] == "bar":
        return "bar", form[1], index_of(form[2]) if len(form) == 3 else None
    return form[1], index_of(form[2])


def expression_of(form):
    if isinstance(form, str):
        return ("number", int(form)) if form.isdigit() else ("place", form, None)
    if form[0] == "bar":
        return place_of(form)
    if form[0] == "at":
        return "place", form[1], index_of(form[2])
    return form[0], expression_of(form[1]), expression_of(form[2])


def index_of(form):
    if form == "beat":
        return ("beat",)
    if isinstance(form, str):
        return ("integer", int(form)) if form.isdigit() else ("index", form)
    return form[0], index_of(form[1]), int(form[2]) if form[0] == "rem" else index_of(form[2])


def test_of(form):
    if form[0] == "not":
        return "not", test_of(form[1])
    if form[0] == "zero":
        return "zero", expression_of(form[1])
    return form[0], index_of(form[1]), index_of(form[2])
