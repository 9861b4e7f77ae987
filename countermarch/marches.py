"""Marches, which reverse whole runs, and the same derivatives by the plain way."""

from countermarch.adjoint import transform
from countermarch.arguments import read_run
from countermarch.checking import check
from countermarch.directions import slope_along, split_row, unit_directions
from countermarch.field import reduce_number
from countermarch.limits import MAX_FUEL
from countermarch.machine import Machine
from countermarch.plain import run_beats
from countermarch.processor import sweep_forward, sweep_reverse
from countermarch.results import no_bars
from countermarch.schedules import judge, plan
from countermarch.simple import simplify
from countermarch.translation import translate_tape


class March:
    """A march through a run without a fault: its position, and the derivatives at its front."""

    def __init__(self, tree, code, memory, weights, fuel):
        state, params = split_row(tree, memory)
        self.tree = tree
        self.code = code
        self.fuel = fuel
        self.state = state
        self.params = list(params)
        self.beat = 0
        self.bars = tuple(weights)
        self.param_bars = tuple(no_bars(tree[1]))
        self.kept = {}
        self.again = 0
        self.operations = 0

    def follow(self, action):
        """Take an action of a schedule that the judge accepts."""
        head = action[0]
        if head == "keep":
            self.kept[action[1]] = (self.beat, self.state)
        elif head == "restore":
            self.beat, self.state = self.kept[action[1]]
        elif head == "advance":
            self.advance(action[1])
        else:
            self.turn()

    def current_memory(self):
        """Return the numbers of the cells at the position."""
        return list(self.state) + self.params

    def advance(self, count):
        """Execute beats as the plain run does."""
        machine = Machine(self.tree, self.current_memory(), self.fuel)
        _, self.state = run_beats(self.tree, machine, self.beat, self.beat + count)
        self.beat += count
        self.again += count

    def turn(self):
        """Execute both sweeps of the beat at the position."""
        result = sweep_forward(self.code, self.tree, self.current_memory(), self.beat, self.fuel)
        _, self.state, tape, done, _ = result
        bars = list(self.bars) + no_bars(self.tree[1])
        result = sweep_reverse(self.code, self.tree, self.current_memory(), list(tape), bars, self.beat, self.fuel)
        _, self.state, self.bars, added, undone, _ = result
        self.param_bars = add_rows(self.param_bars, added)
        self.operations += done + undone


def march(tree, params, state, weights, *, beats, slots, schedule=None, fuel=MAX_FUEL):
    """Return (fault, last, by_state, by_params, counts) of a run that is reversed beat by beat."""
    check(tree)
    memory, bars = read_run(tree, params, state, weights, beats)
    actions = choose_actions(schedule, beats, slots)
    code = translate_tape(transform(simplify(tree)))
    return march_along(tree, code, memory, bars, beats, actions, fuel)


def choose_actions(schedule, beats, slots):
    """Return the actions of the schedule, if judge accepts it, or those of a plan if there is none."""
    if schedule is None:
        return plan(beats, slots)
    judge(schedule, beats, slots)
    return schedule


def march_along(tree, code, memory, weights, beats, actions, fuel):
    """Return what march does, for the code of the tree and for arguments that are right."""
    fault, last = run_beats(tree, Machine(tree, list(memory), fuel), 0, beats)
    if fault is not None:
        return fault, (), (), (), (0, 0, 0)
    marching = March(tree, code, memory, weights, fuel)
    for action in actions:
        marching.follow(action)
    # A slot that is full stays full, so all that were ever full are so at the end.
    counts = (len(marching.kept), marching.again, marching.operations)
    return None, last, marching.bars, marching.param_bars, counts


def by_directions(tree, params, state, weights, *, beats, fuel=MAX_FUEL):
    """Return (fault, last, by_state, by_params), by a run over dual numbers for each cell."""
    check(tree)
    memory, numbers = read_run(tree, params, state, weights, beats)
    fault, last = run_beats(tree, Machine(tree, list(memory), fuel), 0, beats)
    if fault is not None:
        return fault, (), (), ()
    row = []
    for direction in unit_directions(tree):
        _, derivative = slope_along(tree, memory, numbers, direction, beats, fuel)
        row.append(derivative)
    by_state, by_params = split_row(tree, row)
    return None, last, by_state, by_params


def add_rows(first, second):
    """Return the sums of the numbers of two rows."""
    return tuple([reduce_number(a + b) for a, b in zip(first, second)])
