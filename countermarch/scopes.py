"""The names that statements see, and what statements may do with them."""

from countermarch.trees import parts_of


class Scope:
    """The names in scope in a body; `number` is that of the body."""

    def __init__(self, tree, number, variables, integers):
        params, procedures = tree[1], tree[2]
        self.variables = {name: size for name, size in variables}
        self.integers = {name: True for name in integers}
        self.params = {name: True for name, _ in params}
        self.procedures = {procedure[0]: True for procedure in procedures}
        # A procedure calls itself and those declared before it, the beat calls all.
        self.callees = {procedure[0]: procedure for procedure in procedures[:number + 1]}

    def enter(self, statement):
        """Take in the name that a statement introduces for its inner body."""
        if statement[0] == "loop":
            self.integers[statement[1]] = True
        elif statement[0] == "let":
            self.variables[statement[1]] = 0

    def leave(self, statement):
        """Drop the name that a statement introduced."""
        if statement[0] == "loop":
            del self.integers[statement[1]]
        elif statement[0] == "let":
            del self.variables[statement[1]]

    def find_reason(self, statement):
        """Return the first reason why a statement, inner bodies aside, is wrong, or None."""
        places, integers = used_names(statement)
        if not self.sees_all(statement, places, integers):
            return "scope"
        if not all([self.fits_size(place) for place in places]):
            return "size"
        if any([name in self.params for name in changed_names(statement)]):
            return "assigned"
        if statement[0] == "call" and not self.may_call(statement):
            return "call"
        return None

    def sees_all(self, statement, places, integers):
        """Tell whether the names used are in scope, and the one introduced is not yet."""
        used = [name for name, _ in places] + handed_names(statement)
        if not all([name in self.variables for name in used]):
            return False
        if not all([name in self.integers for name in integers]):
            return False
        return statement[0] not in ("loop", "let") or self.is_free(statement[1])

    def is_free(self, name):
        """Tell whether a loop or a let may introduce a name."""
        return name not in self.variables and name not in self.integers and name not in self.procedures

    def fits_size(self, place):
        """Tell whether an array stands with an index, or a scalar without one."""
        name, index = place
        return (self.variables[name] == 0) == (index is None)

    def may_call(self, statement):
        """Tell whether a call names a procedure that it may, and hands over what that one takes."""
        _, name, indexes, handed = statement
        if name not in self.callees or len(set(handed)) != len(handed):
            return False
        _, integers, references, _ = self.callees[name]
        sizes = [self.variables[variable] for variable in handed]
        return len(indexes) == len(integers) and sizes == [size for _, size in references]


def handed_names(statement):
    """Return the names of the variables that a statement hands over."""
    return list(statement[3]) if statement[0] == "call" else []


def changed_names(statement):
    """Return the names of the variables that a statement changes or hands over."""
    return [statement[1][0]] if statement[0] == "set" else handed_names(statement)


def used_names(statement):
    """Return the places and the names of integers in a statement, inner bodies aside."""
    places, integers = [], []
    waiting = [("statement", statement)]
    while waiting:
        kind, value = waiting.pop()
        if kind == "place":
            places.append(value)
        elif kind == "expression" and value[0] == "place":
            places.append(value[1:])
        elif kind == "index" and value[0] == "index":
            integers.append(value[1])
        waiting += [part for part in parts_of(kind, value) if part[0] != "body"]
    return places, integers
