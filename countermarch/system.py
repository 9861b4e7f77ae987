"""The system: programs from their texts, papers about their derivatives, and sessions."""

from countermarch.adjoint import make_adjoint
from countermarch.arguments import read_run
from countermarch.checking import cells, check
from countermarch.commands import read_command, write_fault, write_row, write_words
from countermarch.directions import slope_along, split_row, unit_directions
from countermarch.errors import ArgumentError, CommandError
from countermarch.field import dot
from countermarch.limits import MAX_FUEL, PRIME
from countermarch.machine import Machine
from countermarch.marches import march_along
from countermarch.plain import run_beats
from countermarch.schedules import least, plan
from countermarch.translation import translate_tape
from countermarch.values import is_between
from countermarch.words import read_program


def build(text):
    """Return (tree, adjoint, code) of a program text."""
    adjoint = make_adjoint(read_program(text))
    tree, _, tape = adjoint
    return tree, adjoint, translate_tape(tape)


def slope(text, params, state, weights, beats, direction):
    """Return the derivative of the loss along a direction, or the fault and its beat."""
    tree, memory, numbers = read_case(text, params, state, weights, beats)
    row = read_cells(tree, direction, "direction")
    fault, derivative = slope_along(tree, memory, numbers, row, beats, MAX_FUEL)
    return derivative if fault is None else fault


def agrees(text, params, state, weights, beats, gradient, direction):
    """Tell whether a gradient has the right slope along a direction, or return the fault and its beat."""
    tree, memory, numbers = read_case(text, params, state, weights, beats)
    claimed = read_cells(tree, gradient, "gradient")
    row = read_cells(tree, direction, "direction")
    fault, derivative = slope_along(tree, memory, numbers, row, beats, MAX_FUEL)
    return dot(claimed, row) == derivative if fault is None else fault


def refute(text, params, state, weights, beats, gradient):
    """Return the first direction that refutes a gradient, None, or the fault and its beat."""
    tree, memory, numbers = read_case(text, params, state, weights, beats)
    claimed = read_cells(tree, gradient, "gradient")
    return find_refutation(tree, memory, numbers, beats, claimed)


def read_case(text, params, state, weights, beats):
    """Return the tree of a text, and the memory and the weights for a run."""
    tree = read_program(text)
    check(tree)
    memory, numbers = read_run(tree, params, state, weights, beats)
    return tree, memory, numbers


def read_cells(tree, pair, reason):
    """Return the row of a pair's numbers, one for each cell of the state and of the parameters."""
    if not isinstance(pair, tuple) or len(pair) != 2:
        raise ArgumentError(reason)
    for row, declarations in zip(pair, tree[:2]):
        if not isinstance(row, tuple) or len(row) != cells(declarations):
            raise ArgumentError(reason)
        if not all([is_between(number, 0, PRIME - 1) for number in row]):
            raise ArgumentError(reason)
    return pair[0] + pair[1]


def find_refutation(tree, memory, weights, beats, claimed):
    """Return what refute does, for arguments that are right; the gradient is a row."""
    for direction in unit_directions(tree):
        fault, derivative = slope_along(tree, memory, weights, direction, beats, MAX_FUEL)
        if fault is not None:
            return fault
        if dot(claimed, direction) != derivative:
            return split_row(tree, direction)
    return None


class Session:
    """A session holds a program with its numbers, and answers lines."""

    def __init__(self):
        self.tree = None
        self.code = None
        self.rows = {}
        self.answers = []

    @property
    def loaded(self):
        """Tell whether a program is loaded."""
        return self.tree is not None

    def load(self, text):
        """Replace the program by that of a text; all its numbers are 0."""
        tree, _, code = build(text)
        state_row, param_row = (0,) * cells(tree[0]), (0,) * cells(tree[1])
        self.tree = tree
        self.code = code
        self.rows = {"params": param_row, "state": state_row, "weights": state_row}

    def answer(self, line):
        """Return the list of the answers to a line."""
        if not self.loaded:
            raise CommandError(line)
        sizes = {word: len(row) for word, row in self.rows.items()}
        word, numbers = read_command(line, sizes)
        answers = self.find_answers(word, numbers)
        self.answers.extend(answers)
        return answers

    def find_answers(self, word, numbers):
        """Return the answers to a command that is right."""
        if word in self.rows:
            self.rows[word] = tuple(numbers)
            return ["ok"]
        if word == "run":
            return self.answer_run(numbers[0])
        beats, slots = numbers
        if word == "plan":
            actions = [write_words(action) for action in plan(beats, slots)]
            return [write_words(["least", least(beats, slots)])] + actions
        fault, last, by_state, by_params, counts = self.reverse_run(beats, slots)
        if fault is not None:
            return [write_fault(fault)]
        if word == "check":
            return self.answer_check(beats, by_state + by_params)
        kept, again, operations = counts
        return [
            write_words(["loss", dot(self.rows["weights"], last)]),
            write_row("state", by_state),
            write_row("params", by_params),
            write_words(["kept", kept, "again", again, "operations", operations]),
        ]

    def current_memory(self):
        """Return the numbers of the state and of the parameters."""
        return list(self.rows["state"] + self.rows["params"])

    def answer_run(self, beats):
        """Return the answers to the command run."""
        machine = Machine(self.tree, self.current_memory(), MAX_FUEL)
        fault, last = run_beats(self.tree, machine, 0, beats)
        return [write_row("state", last) if fault is None else write_fault(fault)]

    def reverse_run(self, beats, slots):
        """Return what march does."""
        memory, weights = self.current_memory(), self.rows["weights"]
        return march_along(self.tree, self.code, memory, weights, beats, plan(beats, slots), MAX_FUEL)

    def answer_check(self, beats, gradient):
        """Return the answers to the command check, for the derivatives that the march has."""
        memory, weights = self.current_memory(), self.rows["weights"]
        refutation = find_refutation(self.tree, memory, weights, beats, gradient)
        return ["agrees" if refutation is None else "refuted"]

    def __len__(self):
        """Return the number of all answers so far."""
        return len(self.answers)

    def __iter__(self):
        """Iterate over all answers so far."""
        return iter(self.answers)
