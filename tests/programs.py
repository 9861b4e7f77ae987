"""Random programs for the tests: the same seed gives the same program."""

import random

from countermarch.checking import cells
from countermarch.limits import MAX_BEATS, MAX_DEPTH, MAX_FUEL, MAX_NODES, PRIME

FUELS = (MAX_FUEL, 300, 12, 3, 0, 40, -5, 10 ** 9)
EVERY_SORT = (
    "(state x) (state y) (state k1) (state v 4) (param k) (param w 2)"
    "(procedure f (n) ((p) (q 4)) (let z (mul p k) (set (at q n) (add z (at q (minus 3 n)))) (set p (div z (at w 1)))))"
    "(procedure g (n) ((p)) (set p (add p (at w 0))) (if (less 0 n) ((call g ((minus n 1)) (p))) ()))"
    "(beat (loop i (plus (rem beat 3) 2) (call f (i) (x v)) (if (zero (sub (at v i) y)) ((set y (mul y y))) ((set y (add y 1)))))"
    " (let z (add (mul x y) (div (at v 0) k)) (set (at v 3) z) (call g (2) (z)) (set x (sub z (at v 1))))"
    " (if (not (zero 0)) () ((set k1 (mul k1 7)))))"
)


class Scope:
    """The names that a statement may use."""

    def __init__(self, variables, constants, integers, callees):
        self.variables = variables
        self.constants = constants
        self.integers = integers
        self.callees = callees

    def with_scalar(self, name):
        return Scope(self.variables + [(name, 0)], self.constants, self.integers, self.callees)

    def with_integer(self, name):
        return Scope(self.variables, self.constants, self.integers + [name], self.callees)


class Maker:
    """Makes one program."""

    def __init__(self, seed):
        self.random = random.Random(seed)
        self.left = MAX_NODES
        self.names = 0

    def program(self):
        state = tuple((name, self.size()) for name in "xyv"[:self.random.randint(1, 3)])
        params = tuple((name, self.size()) for name in "kw"[:self.random.randint(0, 2)])
        procedures = []
        for name in "fgh"[:self.random.choice((0, 0, 1, 2, 3))]:
            procedures.append(self.procedure(name, params, procedures))
        scope = Scope(list(state), list(params), [], procedures)
        return state, params, tuple(procedures), self.body(scope, 1, 4)

    def size(self):
        return self.random.choice((0, 0, 1, 2, 3, 8))

    def procedure(self, name, params, procedures):
        integers = tuple("ij"[:self.random.randint(0, 2)])
        references = tuple((reference, self.size()) for reference in "xbc"[:self.random.randint(0, 3)])
        head = (name, integers, references)
        scope = Scope(list(references), list(params), list(integers), procedures + [head])
        return head + (self.body(scope, 1, 3),)

    def body(self, scope, depth, most):
        return tuple(self.statement(scope, depth) for _ in range(self.random.randint(0, most)) if self.left > 60)

    def statement(self, scope, depth):
        self.left -= 1
        heads = ["set"] * 5 + ["call"] * 2
        if depth < MAX_DEPTH:
            heads += ["loop", "if", "let", "let"]
        head = self.random.choice(heads)
        if head == "loop":
            name = self.new_name("n")
            return head, name, self.count(scope), self.body(scope.with_integer(name), depth + 1, 3)
        if head == "let":
            name = self.new_name("t")
            return head, name, self.expression(scope, 1), self.body(scope.with_scalar(name), depth + 1, 3)
        if head == "if":
            return head, self.test(scope, 1), self.body(scope, depth + 1, 2), self.body(scope, depth + 1, 2)
        if head == "call" and scope.callees:
            return self.call(scope)
        return self.set_statement(scope, depth)

    def new_name(self, letter):
        self.names += 1
        return f"{letter}{self.names}"

    def set_statement(self, scope, depth):
        if not scope.variables:
            return "loop", self.new_name("n"), self.count(scope), ()
        return "set", self.place(scope, scope.variables), self.expression(scope, 1)

    def call(self, scope):
        name, integers, references = self.random.choice(scope.callees)[:3]
        handed = []
        for _, size in references:
            fitting = [other for other, its in scope.variables if its == size and other not in handed]
            if not fitting:
                return self.set_statement(scope, 1)
            handed.append(self.random.choice(fitting))
        return "call", name, tuple(self.index(scope, 1) for _ in integers), tuple(handed)

    def place(self, scope, variables):
        name, size = self.random.choice(variables)
        return name, (None if size == 0 else self.subscript(scope, size))

    def subscript(self, scope, size):
        kind = self.random.randint(0, 9)
        if kind == 0:
            return self.index(scope, 1)
        if kind < 5:
            self.left -= 1
            return "rem", self.index(scope, 2), size
        self.left -= 1
        return "integer", self.random.randrange(size)

    def count(self, scope):
        if self.random.randint(0, 3) == 0:
            self.left -= 1
            return "rem", self.index(scope, 2), 4
        self.left -= 1
        return "integer", self.random.randint(0, 3)

    def expression(self, scope, depth):
        self.left -= 1
        if depth < MAX_DEPTH and self.left > 30 and self.random.randint(0, 2):
            op = self.random.choice(("add", "sub", "mul", "mul", "div"))
            return op, self.expression(scope, depth + 1), self.expression(scope, depth + 1)
        variables = scope.variables + scope.constants
        if not variables or self.random.randint(0, 4) == 0:
            return "number", self.random.choice((0, 1, 2, 3, 7, 1000, PRIME - 1))
        return ("place",) + self.place(scope, variables)

    def index(self, scope, depth):
        self.left -= 1
        if depth < MAX_DEPTH and self.left > 30 and self.random.randint(0, 2) == 0:
            op = self.random.choice(("plus", "minus", "times", "rem"))
            if op == "rem":
                return op, self.index(scope, depth + 1), self.random.choice((1, 2, 5, 1000))
            return op, self.index(scope, depth + 1), self.index(scope, depth + 1)
        if scope.integers and self.random.randint(0, 2):
            return "index", self.random.choice(scope.integers)
        if self.random.randint(0, 2) == 0:
            return ("beat",)
        return "integer", self.random.choice((0, 0, 1, 1, 2, 3, 7, 40))

    def test(self, scope, depth):
        self.left -= 1
        head = self.random.choice(("less", "equal", "zero", "not"))
        if head == "zero":
            return head, self.expression(scope, 2)
        if head == "not" and depth < MAX_DEPTH:
            return head, self.test(scope, depth + 1)
        return self.random.choice(("less", "equal")), self.index(scope, 1), self.index(scope, 1)


def random_program(seed):
    """Return a tree that is a program."""
    return Maker(seed).program()


def random_row(seed, count):
    """Return a row of numbers; small numbers, 0 among them, are frequent."""
    numbers = random.Random(seed)
    return tuple(numbers.choice((0, 1, 2, numbers.randrange(PRIME))) for _ in range(count))


def random_case(seed):
    """A random tree with rows, a beat and fuel."""
    tree = random_program(seed)
    params, state = random_row(seed, cells(tree[1])), random_row(seed + 1, cells(tree[0]))
    return tree, params, state, seed % MAX_BEATS, FUELS[seed % len(FUELS)]
