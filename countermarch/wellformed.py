"""Which code is well formed for a program."""

from countermarch.limits import MAX_INTEGER, PRIME
from countermarch.trees import bodies_of
from countermarch.values import is_between, is_integer

# The kinds of the operands of each instruction.
OPERANDS = {
    "integer": ("integer",), "register": ("register",), "beat": (),
    "plus": (), "minus": (), "times": (), "rem": ("divisor",), "assign": ("register",),
    "less": (), "equal": (), "zero": (), "not": (), "number": ("number",),
    "load": ("variable", "indexed"), "load_bar": ("variable", "indexed"),
    "store": ("variable", "indexed"), "store_bar": ("variable", "indexed"),
    "add": (), "sub": (), "mul": (), "div": (),
    "push": (), "pop": ("variable", "indexed"), "mark": (), "unmark": (),
    "tick": (), "branch": ("target",), "jump": ("target",),
    "call": ("procedure", "count", "names"), "return": (),
    "open": ("local",), "close": ("local",),
}
TICK = ("tick",)


def is_well_formed(code, tree):
    """Tell whether a value is well-formed code for a program."""
    if not isinstance(code, tuple) or len(code) != 2 * len(tree[2]) + 2:
        return False
    if not all([has_body_form(body) for body in code]):
        return False
    return all([BodyRules(code, tree, number).are_kept() for number in range(len(code))])


def has_body_form(body):
    """Tell whether a value consists of two numbers and of at least one instruction."""
    if not isinstance(body, tuple) or len(body) != 3:
        return False
    registers, variables, instructions = body
    if not is_count(registers) or not is_count(variables):
        return False
    return isinstance(instructions, tuple) and len(instructions) > 0


def is_count(value):
    """Tell whether a value is an integer that is not negative."""
    return is_integer(value) and value >= 0


class BodyRules:
    """The rules for one body of the code."""

    def __init__(self, code, tree, number):
        registers, variables, self.instructions = code[number]
        self.code = code
        self.procedures = tree[2]
        self.variables = variables
        self.first_local = len(bodies_of(tree)[number // 2][1])
        self.ranges = {
            "integer": (0, MAX_INTEGER), "number": (0, PRIME - 1), "divisor": (1, MAX_INTEGER),
            "register": (0, registers - 1), "variable": (0, variables - 1), "local": (self.first_local, variables - 1),
            "target": (0, len(self.instructions) - 1), "procedure": (0, len(code) - 3),
        }

    def are_kept(self):
        """Tell whether the body keeps all rules."""
        if self.variables < self.first_local:
            return False
        if not all([self.is_instruction(instruction) for instruction in self.instructions]):
            return False
        if self.instructions[-1][0] not in ("return", "jump"):
            return False
        return all([self.stands_well(at, instruction) for at, instruction in enumerate(self.instructions)])

    def is_instruction(self, value):
        """Tell whether a value is an instruction whose operands exist."""
        if not isinstance(value, tuple) or not value or not isinstance(value[0], str):
            return False
        kinds = OPERANDS.get(value[0])
        if kinds is None or len(value) != 1 + len(kinds):
            return False
        if value[0] == "call":
            return self.is_call(value)
        return all([self.fits(kind, operand) for kind, operand in zip(kinds, value[1:])])

    def fits(self, kind, operand):
        """Tell whether an operand is of this kind."""
        if kind == "indexed":
            return isinstance(operand, bool)
        least, most = self.ranges[kind]
        return is_between(operand, least, most)

    def is_call(self, instruction):
        """Tell whether a call names a procedure's body, and hands over what there is."""
        _, number, count, names = instruction
        if not self.fits("procedure", number) or not isinstance(names, tuple):
            return False
        registers = self.code[number][0]
        references = self.procedures[number // 2][2]
        if not is_between(count, 0, registers) or len(names) != len(references):
            return False
        return all([self.fits("variable", name) for name in names])

    def stands_well(self, at, instruction):
        """Tell whether ticks stand where an instruction needs them, so that every run ends."""
        head = instruction[0]
        if head == "call":
            return at > 0 and self.instructions[at - 1] == TICK
        if head in ("branch", "jump") and instruction[1] <= at:
            return self.instructions[instruction[1]] == TICK
        return True
