"""New names for local variables."""

from countermarch.trees import inner_bodies


class NewNames:
    """The names t0, t1 and so on, without those that a tree has already."""

    def __init__(self, tree):
        self.taken = {name: True for name in names_of(tree)}
        self.number = 0

    def take(self):
        """Return the next name."""
        while f"t{self.number}" in self.taken:
            self.number += 1
        name = f"t{self.number}"
        self.number += 1
        return name


def names_of(tree):
    """Return the names that are declared or introduced anywhere in a tree."""
    state, params, procedures, beat = tree
    names = [name for name, _ in state + params] + introduced_names(beat)
    for name, integers, references, body in procedures:
        names += [name] + list(integers) + [reference for reference, _ in references]
        names += introduced_names(body)
    return names


def introduced_names(body):
    """Return the names that the loop and let statements of a body introduce."""
    names = []
    for statement in body:
        if statement[0] in ("loop", "let"):
            names.append(statement[1])
        for inner in inner_bodies(statement):
            names += introduced_names(inner)
    return names
