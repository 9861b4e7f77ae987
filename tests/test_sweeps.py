"""Points 64 to 71: sweeps."""

import copy
import unittest

from countermarch.adjoint import make_adjoint
from countermarch.errors import ArgumentError, TreeError
from countermarch.field import dot
from countermarch.limits import MAX_BEATS, MAX_FUEL, PRIME
from countermarch.plain import dual_run, run_beat
from countermarch.sweeps import forward, reverse
from countermarch.tapes import TapeMachine
from countermarch.words import read_program
from oracle import TapeOracle, oracle_forward, oracle_reverse, sweep
from programs import EVERY_SORT, random_case, random_row
from tape_text import read_tape_body

LAST = PRIME - 1


class SweepCase(unittest.TestCase):
    def forward(self, text, state, params=(), beat=0, fuel=MAX_FUEL):
        return forward(read_program(text), params, state, beat=beat, fuel=fuel)

    def assert_forward(self, text, state, expected, **more):
        with self.subTest(text=text, state=state, **more):
            self.assertEqual(self.forward(text, state, **more), expected)

    def assert_reverse(self, text, state, tape, bars, expected, params=(), beat=0, fuel=MAX_FUEL):
        with self.subTest(text=text, state=state, tape=tape):
            self.assertEqual(reverse(read_program(text), params, state, tape, bars, beat=beat, fuel=fuel), expected)


class TestExamples(SweepCase):
    """The example of the interface, and sweeps that are reckoned by hand."""

    def test_example(self):
        text = "(state x) (param k) (beat (set x (add (mul x x) k)))"
        # The tape has x, and the product x * x of the local variable.
        self.assert_forward(text, (3,), (None, (10,), (3, 9), 2, 1), params=(1,))
        self.assert_reverse(text, (10,), (3, 9), (1,), (None, (3,), (6,), (1,), 6, 0), params=(1,))
        self.assert_reverse(text, (10,), (3, 9), (5,), (None, (3,), (30,), (5,), 6, 0), params=(1,))

    def test_set(self):
        text = "(state x) (state y) (beat (set x {}))"
        for expression, last, bars, operations in (
            ("7", 7, (0, 3), (0, 0)), ("y", 5, (0, 5), (0, 1)), ("x", 4, (2, 3), (0, 1)), ("(add x y)", 9, (2, 5), (1, 2)),
            ("(sub y x)", 1, (LAST - 1, 5), (1, 2)), ("(mul x y)", 20, (10, 11), (1, 4)), ("(mul x x)", 16, (16, 3), (1, 4)),
            ("(mul 7 x)", 28, (14, 3), (1, 2)), ("(add 1 2)", 3, (0, 3), (1, 0)),
            ("(div 20 x)", 5, (PRIME - 2 * 5 * pow(4, -1, PRIME) % PRIME, 3), (1, 3)),
            ("(div x 2)", 2, (1, 3), (1, 2)), ("(div x x)", 1, (0, 3), (1, 4)),
        ):
            last_state = (last, 5)
            self.assert_forward(text.format(expression), (4, 5), (None, last_state, (4,), operations[0], 1))
            self.assert_reverse(
                text.format(expression), last_state, (4,), (2, 3), (None, (4, 5), tuple(b % PRIME for b in bars), (), operations[1], 0)
            )

    def test_let(self):
        text = "(state x) (beat (let z (mul x x) (set z (add z 1)) (set x z)))"
        self.assert_forward(text, (3,), (None, (10,), (9, 3, 10), 2, 2))
        self.assert_reverse(text, (10,), (9, 3, 10), (5,), (None, (3,), (30,), (), 6, 0))

    def test_loop(self):
        text = "(state x) (state v 3) (beat (loop i 3 (set x (mul x (at v i)))))"
        self.assert_forward(text, (2, 3, 5, 7), (None, (210, 3, 5, 7), (2, 6, 30), 3, 6))
        self.assert_reverse(text, (210, 3, 5, 7), (2, 6, 30), (1, 0, 0, 0), (None, (2, 3, 5, 7), (105, 70, 42, 30), (), 12, 3))

    def test_if(self):
        text = "(state x) (state y) (beat (if (zero x) ((set y (mul y 3))) ((set y x))))"
        self.assert_forward(text, (0, 5), (None, (0, 15), (5, 1), 1, 1))
        self.assert_reverse(text, (0, 15), (5, 1), (7, 2), (None, (0, 5), (7, 6), (), 2, 0))
        self.assert_forward(text, (4, 5), (None, (4, 4), (5, 0), 0, 1))
        self.assert_reverse(text, (4, 4), (5, 0), (7, 2), (None, (4, 5), (9, 0), (), 1, 0))

    def test_call(self):
        text = (
            "(state x) (state v 2) (param k) (procedure f (i) ((p 2) (q)) (set q (mul (at p i) k)))"
            "(beat (call f (1) (v x)))"
        )
        self.assert_forward(text, (9, 3, 4), (None, (20, 3, 4), (9,), 1, 2), params=(5,))
        self.assert_reverse(text, (20, 3, 4), (9,), (10, 1, 2), (None, (9, 3, 4), (0, 1, 52), (40,), 4, 1), params=(5,))

    def test_results_are_tuples_of_numbers(self):
        found = self.forward("(state x) (beat (set x (sub x 5)))", [PRIME + 3])
        self.assertEqual(found, (None, (PRIME - 2,), (3,), 1, 1))
        self.assertEqual([type(part) for part in found], [type(None), tuple, tuple, int, int])
        tree = read_program("(state x) (beat (set x (sub x 5)))")
        found = reverse(tree, [], [-2], [PRIME + 3], [-1], beat=0)
        self.assertEqual(found, (None, (3,), (LAST,), (), 1, 0))
        self.assertEqual([type(part) for part in found[1:4]], [tuple] * 3)


class TestStatements(unittest.TestCase):
    """Point 66, statement by statement; the tape program need not be one that transform returns."""

    HEAD = ((("x", 0), ("y", 0), ("v", 3)), (("k", 0),))

    def execute(self, text, tape=(), memory=(1, 2, 3, 4, 5, 6), bars=(10, 20, 30, 40, 50, 60), procedures=(), fuel=MAX_FUEL, beat=1):
        """Execute a body; return the fault, the memory, the bars, the tape, the operations and the ticks."""
        body = read_tape_body(text)
        machine = TapeMachine(self.HEAD + (procedures,), body, list(memory), list(bars), list(tape), fuel)
        fault = machine.run_beat(beat)
        result = fault, machine.memory, machine.bars, machine.tape, machine.operations, machine.ticks
        self.assert_oracle(result, text, tape, memory, bars, procedures, fuel, beat)
        return result

    def assert_oracle(self, result, text, tape, memory, bars, procedures, fuel, beat):
        """A second machine that stands in the tests does the same."""
        program = self.HEAD + (procedures, read_tape_body(text))
        oracle = TapeOracle(program, fuel, tape)
        cells_of = [list(pair) for pair in zip(memory, bars)]
        variables = {"x": cells_of[:1], "y": cells_of[1:2], "v": cells_of[2:5], "k": cells_of[5:]}
        self.assertEqual(oracle.run_beat(variables, beat), result[0])
        self.assertEqual([oracle.tape, oracle.operations, oracle.ticks], list(result[3:]))
        if result[0] is None:
            self.assertEqual([list(pair) for pair in zip(*result[1:3])], cells_of)

    def assert_tape(self, text, before, after, **more):
        with self.subTest(text=text):
            result = self.execute(text, before, **more)
            self.assertEqual((result[0], result[3]), (None, after))

    def assert_fault(self, text, fault, tape=(), operations=0, ticks=0, **more):
        with self.subTest(text=text):
            result = self.execute(text, tape, **more)
            self.assertEqual((result[0],) + result[4:], (fault, operations, ticks))

    def test_push(self):
        self.assert_tape("(push 7)", (), [7])
        self.assert_tape("(push y) (push (at v beat)) (push k)", (9,), [9, 2, 4, 6])
        self.assert_tape("(push (bar y)) (push (bar v 2)) (push (bar k))", (9,), [9, 20, 50, 60])
        self.assert_tape("(push (add x (mul y k)))", (), [13])
        self.assert_fault("(push (at v 3))", "index")
        self.assert_fault("(push (div x 0))", "zero")
        self.assert_fault("(push (div x (mul 2 2))) (push (div x 0))", "zero", operations=2)

    def test_pop(self):
        result = self.execute("(pop x) (pop (at v (plus beat 1)))", (7, 8, 9))
        self.assertEqual(result, (None, [9, 2, 3, 4, 8, 6], [10, 20, 30, 40, 50, 60], [7], 0, 0))
        result = self.execute("(pop (bar y)) (pop (bar v 0))", (7, 8, 9))
        self.assertEqual(result[1:4], ([1, 2, 3, 4, 5, 6], [10, 9, 8, 40, 50, 60], [7]))
        self.assert_fault("(pop x)", "tape")
        self.assert_fault("(pop x) (pop x)", "tape", (1,))
        self.assert_fault("(pop (at v 3))", "index", (1,))
        self.assert_fault("(pop (at v 3))", "index")
        self.assert_fault("(pop (at v (minus 0 beat)))", "index")
        self.assert_fault("(pop (bar v (plus 1000 1)))", "index")
        self.assert_fault("(pop (bar v 2))", "tape")

    def test_mark(self):
        self.assert_tape("(mark (equal 0 0)) (mark (not (equal 0 0))) (mark (less beat 1)) (mark (zero x))", (5,), [5, 1, 0, 0, 0])
        self.assert_tape("(mark (zero (sub x 1))) (mark (not (not (less 0 beat))))", (), [1, 1])
        self.assert_fault("(mark (zero (div 1 0)))", "zero")
        self.assert_fault("(mark (less (plus 1000 1) 1))", "index")

    def test_ifmark(self):
        for number, bar in ((0, 8), (1, 7), (2, 7), (LAST, 7)):
            result = self.execute("(ifmark ((set (bar x) 7)) ((set (bar x) 8)))", (5, number))
            self.assertEqual(result[1:], ([1, 2, 3, 4, 5, 6], [bar, 20, 30, 40, 50, 60], [5], 0, 0))
        self.assert_tape("(ifmark () ())", (0,), [])
        self.assert_tape("(mark (equal 0 1)) (ifmark ((push 3)) ((push 4)))", (), [4])
        self.assert_tape("(ifmark ((pop x)) ((pop y)))", (6, 1), [])
        self.assert_fault("(ifmark () ())", "tape")
        self.assert_fault("(ifmark ((pop x)) ())", "tape", (1,))

    def test_down(self):
        result = self.execute("(down i 3 (push (at v i)))")
        self.assertEqual((result[0], result[3], result[5]), (None, [5, 4, 3], 3))
        result = self.execute("(down i (plus beat 1) (down j i (push (at v j))) (set (bar v i) 0))")
        self.assertEqual((result[0], result[2], result[3], result[5]), (None, [10, 20, 0, 0, 50, 60], [3], 3))
        for count in ("0", "(minus 0 3)", "(minus beat 1)"):
            self.assertEqual(self.execute(f"(down i {count} (pop x))")[0], None)
        self.assert_fault("(down i 4 (push (at v i)))", "index", ticks=1)
        self.assert_fault("(down i (plus 1000 1))", "index")
        self.assert_fault("(down i 3)", "fuel", ticks=2, fuel=2)
        self.assert_fault("(down i 2 (down j 2 (push (add 1 1))))", "fuel", operations=3, ticks=5, fuel=5)
        self.assert_fault("(down i 1000)", "fuel", ticks=300)
        self.assertEqual(self.execute("(down i 3)", fuel=3)[0::5], (None, 3))

    def test_the_index_of_down_is_evaluated_once(self):
        self.assert_tape("(down i 2 (down j (plus i 1) (push (at v j))))", (), [4, 3, 3])

    def test_set_of_a_bar(self):
        result = self.execute("(set (bar x) y) (set (bar v beat) (bar k)) (set (bar k) (add (bar y) 1))")
        self.assertEqual(result, (None, [1, 2, 3, 4, 5, 6], [2, 20, 30, 60, 50, 21], [], 1, 0))
        self.assertEqual(self.execute("(set (bar x) 1)", fuel=0)[0], None)
        self.assert_fault("(set (bar v 3) 1)", "index")
        self.assert_fault("(set (bar v 3) (div 1 0))", "zero")
        self.assert_fault("(set (bar v 3) (mul 1 1))", "index", operations=1)
        self.assert_fault("(set x 1)", "fuel", fuel=0)

    def test_push_pop_and_mark_spend_no_tick(self):
        for text in ("(push 1)", "(pop x)", "(mark (equal 0 0))", "(ifmark () ())", "(let z 1 (push z))"):
            result = self.execute(text, (5,), fuel=0)
            self.assertEqual((result[0], result[5]), (None, 0))

    def test_a_let_has_the_bar_zero(self):
        self.assert_tape("(let z 7 (push (bar z)) (push z) (set (bar z) 3) (push (bar z)))", (), [0, 7, 3])
        self.assert_tape("(loop i 2 (let z 7 (push (bar z)) (set (bar z) 3)))", (), [0, 0])
        self.assert_tape("(let z (bar y) (let u (bar z) (push u) (set (bar z) z)) (push (bar z)))", (), [0, 20])

    def test_a_call_hands_over_bars(self):
        body = read_tape_body("(set (bar q) (add (bar q) (bar p 2))) (set (bar k) 5) (pop (at p i))")
        procedures = ((("reverse", "f"), ("i",), (("p", 3), ("q", 0)), body),)
        result = self.execute("(call (reverse f) (beat) (v y))", (8,), procedures=procedures)
        self.assertEqual(result, (None, [1, 2, 3, 8, 5, 6], [10, 70, 30, 40, 50, 5], [], 1, 1))
        result = self.execute("(let z 1 (call (reverse f) (0) (v z)) (push (bar z)))", (8,), procedures=procedures)
        self.assertEqual(result, (None, [1, 2, 8, 4, 5, 6], [10, 20, 30, 40, 50, 5], [50], 1, 1))

    def test_the_order_of_operands(self):
        """Bars come first, then operations, then all else; each from left to right."""
        for expression, fault, operations in (
            ("(add (div 1 0) (bar v 9))", "index", 0), ("(add (bar v 9) (div 1 0))", "index", 0),
            ("(add (at v 9) (div 1 0))", "zero", 0), ("(add (div 1 0) (at v 9))", "zero", 0),
            ("(add (mul 1 1) (bar v 9))", "index", 0), ("(add (mul 1 1) (at v 9))", "index", 1),
            ("(add (at v 9) (mul 1 1))", "index", 1), ("(add (mul 1 1) (div 1 0))", "zero", 1),
            ("(add (div 1 0) (mul 1 1))", "zero", 0), ("(add (mul (at v 9) (bar x)) (mul 1 1))", "index", 0),
            ("(add (mul 1 1) (mul (at v 9) (bar x)))", "index", 1), ("(mul (add 1 1) (sub (add 1 1) (bar v 9)))", "index", 1),
            ("(div (mul 1 1) (bar v 0))", None, 2),
        ):
            text = f"(push {expression})"
            with self.subTest(text=text):
                result = self.execute(text)
                self.assertEqual((result[0], result[4]), (fault, operations))

    def test_all_operations_of_bars(self):
        self.assert_tape("(push (add (bar x) y)) (push (sub y (bar x))) (push (mul (bar x) (bar y)))", (), [12, PRIME - 8, 200])
        self.assert_tape("(push (div (bar y) (bar x))) (push (sub (mul x y) (bar x)))", (), [2, PRIME - 8])

    def test_variables_that_are_called_like_words(self):
        text = "(state bar) (state place) (beat (set bar (mul place bar)) (loop number 2 (set place bar)))"
        tree = read_program(text)
        fault, last, tape, operations, ticks = forward(tree, (), (3, 5), beat=0)
        self.assertEqual((fault, last, tape, operations, ticks), (None, (15, 15), (3, 5, 15), 1, 5))
        self.assertEqual(reverse(tree, (), last, tape, (1, 1), beat=0), (None, (3, 5), (10, 6), (), 6, 2))


class TestForward(SweepCase):
    """Points 67 and 68."""

    def assert_same(self, tree, params, state, beat, fuel):
        """The sweep has the fault, the values and the ticks of the beat."""
        fault, last, ticks, operations, _ = run_beat(tree, params, state, beat=beat, fuel=fuel)
        found = forward(tree, params, state, beat=beat, fuel=fuel)
        self.assertEqual((found[0], found[1], found[4]), (fault, last, ticks))
        if fault != "index":
            # A set reads its old number ahead of the operation, so with an index
            # that an array does not have the operation may not be made.
            self.assertEqual(found[3], operations)
        if fault is not None:
            self.assertEqual(found[2], ())
        self.assertEqual(found, oracle_forward(make_adjoint(tree)[2], params, state, beat, fuel))
        return fault

    def test_random_programs(self):
        faults = [self.assert_same(*random_case(seed)) for seed in range(600)]
        for fault in (None, "zero", "index", "calls", "fuel"):
            self.assertGreater(faults.count(fault), 2, fault)

    def test_every_fuel(self):
        for text, state, params in (
            (EVERY_SORT, (3, 4, 5, 1, 2, 3, 4), (6, 7, 8)),
            ("(state x) (beat (set x (add (mul x x) 1)) (set x (div x 0)))", (1,), ()),
            ("(state v 2) (beat (loop i 3 (set (at v i) (div 1 (at v i)))))", (1, 2), ()),
        ):
            tree = read_program(text)
            ticks = run_beat(tree, params, state, beat=1)[2]
            for fuel in list(range(-2, ticks + 3)) + [-10 ** 30, MAX_FUEL, MAX_FUEL + 1, 10 ** 30]:
                fault = self.assert_same(tree, params, state, 1, fuel)
                self.assertEqual(fault == "fuel", fuel < ticks)

    def test_more_than_the_most_fuel(self):
        tree = read_program("(state x) (beat (loop i 1000 (set x (add x 1))))")
        for fuel in (300, 301, 10 ** 30):
            self.assertEqual(forward(tree, (), (0,), beat=0, fuel=fuel), ("fuel", (), (), 150, 300))
        self.assertEqual(forward(tree, (), (0,), beat=0), ("fuel", (), (), 150, 300))
        self.assertEqual(forward(tree, (), (0,), beat=0, fuel=299), ("fuel", (), (), 150, 299))

    def test_tape(self):
        for text, state, tape in (
            ("(beat)", (1, 2, 3), ()), ("(beat (set x 5) (set x 6))", (1, 2, 3), (1, 5)),
            ("(beat (loop i 2 (set (at v i) 7)))", (1, 2, 3), (2, 3)), ("(beat (let z 5 (set z 6) (set x 7)))", (1, 2, 3), (5, 1, 6)),
            ("(beat (if (zero x) () ()))", (1, 2, 3), (0,)), ("(beat (if (zero x) () ()))", (0, 2, 3), (1,)),
            ("(beat (if (zero (sub x 1)) () ()))", (1, 2, 3), (1, 0)), ("(beat (if (less 1 beat) ((set x 4)) ()))", (1, 2, 3), (1, 1)),
            ("(beat (set (at v 0) (div 9 (at v 1))))", (1, 2, 3), (2,)),
        ):
            found = self.forward(f"(state x) (state v 2) {text}", state, beat=2)
            self.assertEqual((found[0], found[2]), (None, tape), text)

    def test_faults(self):
        for statement, fault, operations, ticks in (
            ("(set (at v 9) (div 1 0))", "zero", 0, 0), ("(set (at v 9) (div 1 1))", "index", 1, 0),
            ("(set (at v 9) (mul 1 1))", "index", 0, 0), ("(set x (mul 1 (at v 9)))", "index", 0, 0),
            ("(set x 1) (set x (div x 0))", "zero", 0, 1), ("(let z (mul x x) (set x (div z 0)))", "zero", 1, 0),
            ("(if (zero (div 1 0)) () ())", "zero", 0, 0), ("(call f (7) (v))", "index", 0, 1), ("(call g () ())", "calls", 0, 7),
            ("(loop i 3 (set (at v i) (add 1 1)))", "index", 2, 5), ("(loop i 1000)", "fuel", 0, 300),
        ):
            text = f"(state x) (state v 2) (procedure f (i) ((a 2)) (set (at a i) 1)) (procedure g () () (call g () ())) (beat {statement})"
            self.assert_forward(text, (3, 4, 5), (fault, (), (), operations, ticks))


class TestReverse(SweepCase):
    """Points 64 and 69."""

    def assert_reversed(self, tree, params, state, beat, fuel, seed=0):
        """The sweeps fit each other, unless the forward one has a fault."""
        fault, last, ticks, operations, assignments = run_beat(tree, params, state, beat=beat, fuel=fuel)
        if fault is not None:
            return False
        _, _, tape, done, _ = forward(tree, params, state, beat=beat, fuel=fuel)
        for bars in (random_row(seed, len(state)), (0,) * len(state)):
            found = reverse(tree, params, last, tape, bars, beat=beat, fuel=fuel)
            self.assertEqual(found, oracle_reverse(make_adjoint(tree)[2], params, last, tape, bars, beat, fuel))
            fault, restored, new_bars, param_bars, undone, reverse_ticks = found
            self.assertEqual((fault, restored), (None, state))
            self.assertLessEqual(done + undone, 5 * operations + assignments)
            self.assertLessEqual(reverse_ticks, ticks)
            if beat == 0:
                self.assert_transposed(tree, params, state, fuel, bars, new_bars, param_bars, seed)
            if not any(bars):
                self.assertEqual((any(new_bars), any(param_bars)), (False, False))
        return True

    def assert_transposed(self, tree, params, state, fuel, bars, new_bars, param_bars, seed):
        for more in range(2):
            d, e = random_row(seed + more + 5, len(state)), random_row(seed + more + 6, len(params))
            slopes = dual_run(tree, params, state, e, d, beats=1, fuel=fuel)[2]
            self.assertEqual((dot(new_bars, d) + dot(param_bars, e)) % PRIME, dot(bars, slopes))

    def test_random_programs(self):
        reversed_ones = 0
        for seed in range(800):
            tree, params, state, beat, fuel = random_case(seed)
            with self.subTest(seed=seed):
                reversed_ones += self.assert_reversed(tree, params, state, beat if seed % 4 == 3 else 0, fuel, seed)
        self.assertGreater(reversed_ones, 300)

    def test_programs_of_every_sort(self):
        pieces = (
            "(set x {})", "(set (at v (plus beat 1)) {})", "(let z {} (set z (mul z y)) (set x (add z x)))",
            "(loop i 3 (set (at v i) {}))", "(if (zero {}) ((set x y)) ((set x (at v 1))))", "(call f (2) (x v))",
            "(if (not (zero {})) ((set x (mul y x))) ((set y x)))", "(let z {} (call g (3) (z)) (set (at v 3) z))",
        )
        expressions = (
            "7", "y", "x", "k", "(at v 2)", "(add x y)", "(sub 3 x)", "(mul x x)", "(div y x)", "(div x 5)", "(div 5 (at w 0))",
            "(sub (mul x y) (div k (add x y)))", "(sub x x)", "(sub x 3)",
        )
        head = EVERY_SORT[:EVERY_SORT.index("(beat")]
        for piece in pieces:
            for expression in expressions:
                body = piece.format(expression)
                tree = read_program(f"{head} (beat {body} (set y (add x (at v 2))) {body})")
                self.assertTrue(self.assert_reversed(tree, (6, 7, 8), (3, 4, 5, 1, 2, 3, 4), 0, MAX_FUEL), body)

    def test_with_every_fuel_that_forward_may_have(self):
        tree = read_program(EVERY_SORT)
        params, state = (6, 7, 8), (3, 4, 5, 1, 2, 3, 4)
        ticks = run_beat(tree, params, state, beat=1)[2]
        for fuel in (ticks, ticks + 1, MAX_FUEL, MAX_FUEL + 1, 10 ** 30):
            self.assertTrue(self.assert_reversed(tree, params, state, 1, fuel))

    def test_at_most_four_operations_for_an_operation(self):
        for op, most in (("add", 2), ("sub", 2), ("mul", 4), ("div", 4)):
            tree = read_program(f"(state x) (state y) (state z) (beat (set z ({op} x y)))")
            _, last, tape, operations, _ = forward(tree, (), (3, 5, 7), beat=0)
            self.assertEqual(operations, 1)
            self.assertEqual(reverse(tree, (), last, tape, (1, 1, 1), beat=0)[4], most)

    def test_bars_of_parameters_begin_with_zero(self):
        tree = read_program("(state x) (param k) (param w 2) (beat (set x (mul x k)))")
        _, last, tape, _, _ = forward(tree, (5, 8, 9), (3,), beat=0)
        self.assertEqual(reverse(tree, (5, 8, 9), last, tape, (2,), beat=0)[2:4], ((10,), (6, 0, 0)))

    def test_a_variable_that_is_read_keeps_its_bar(self):
        tree = read_program("(state x) (state y) (beat (set y (mul x 3)))")
        _, last, tape, _, _ = forward(tree, (), (4, 9), beat=0)
        self.assertEqual(reverse(tree, (), last, tape, (100, 10), beat=0)[2], (130, 0))


class TestAnyTape(SweepCase):
    """Point 70."""

    LOOP = "(state x) (beat (loop i 3 (set x (add x 1))))"

    def test_too_short_and_too_long(self):
        self.assert_reverse(self.LOOP, (3,), (0, 1, 2), (1,), (None, (0,), (1,), (), 3, 3))
        self.assert_reverse(self.LOOP, (3,), (1, 2), (1,), ("tape", (), (), (), 2, 3))
        self.assert_reverse(self.LOOP, (3,), (2,), (1,), ("tape", (), (), (), 1, 2))
        self.assert_reverse(self.LOOP, (3,), (), (1,), ("tape", (), (), (), 0, 1))
        # A tape that is left is found at the end, so all operations and ticks are counted.
        self.assert_reverse(self.LOOP, (3,), (9, 0, 1, 2), (1,), ("tape", (), (), (), 3, 3))
        self.assert_reverse("(state x) (beat)", (3,), (), (1,), (None, (3,), (1,), (), 0, 0))
        self.assert_reverse("(state x) (beat)", (3,), (0,), (1,), ("tape", (), (), (), 0, 0))

    def test_what_forward_did_not_return(self):
        self.assert_reverse(self.LOOP, (77,), (5, 6, 7), (4,), (None, (5,), (4,), (), 3, 3))
        text = "(state x) (state y) (beat (if (zero x) ((set y (mul y x))) ((set x (add x y)))))"
        self.assert_reverse(text, (3, 4), (8, 1), (5, 6), (None, (3, 8), (5 + 48, 18), (), 4, 0))
        self.assert_reverse(text, (3, 4), (8, 0), (5, 6), (None, (8, 4), (5, 11), (), 2, 0))
        self.assert_reverse(text, (3, 4), (8, 2), (5, 6), (None, (3, 8), (53, 18), (), 4, 0))
        self.assert_reverse(text, (3, 4), (8, PRIME), (5, 6), (None, (8, 4), (5, 11), (), 2, 0))

    def test_faults(self):
        text = "(state x) (state y) (beat (set x (div x y)))"
        self.assert_reverse(text, (3, 0), (6,), (1, 1), ("zero", (), (), (), 0, 0))
        self.assert_reverse(text, (3, 0), (), (1, 1), ("tape", (), (), (), 0, 0))
        text = "(state v 2) (beat (if (zero (at v 0)) ((set (at v (plus beat 1)) 1)) ()))"
        self.assert_reverse(text, (3, 4), (5, 1), (1, 1), (None, (3, 5), (1, 0), (), 0, 0))
        self.assert_reverse(text, (3, 4), (5, 1), (1, 1), ("index", (), (), (), 0, 0), beat=1)
        self.assert_reverse(text, (3, 4), (0,), (1, 1), (None, (3, 4), (1, 1), (), 0, 0), beat=1)
        self.assert_reverse(text, (3, 4), (1,), (1, 1), ("index", (), (), (), 0, 0), beat=1)
        text = "(state x) (procedure f () () (if (less beat 1) () ((call f () ())))) (beat (call f () ()))"
        self.assert_reverse(text, (3,), (1,), (1,), (None, (3,), (1,), (), 0, 1))
        self.assert_reverse(text, (3,), (1, 0, 0), (1,), (None, (3,), (1,), (), 0, 3))
        self.assert_reverse(text, (3,), (0,) * 9, (1,), ("calls", (), (), (), 0, 7))
        self.assert_reverse(text, (3,), (0,) * 3, (1,), ("tape", (), (), (), 0, 4))

    def test_fuel(self):
        for fuel in range(-1, 3):
            done = max(fuel, 0)
            self.assert_reverse(self.LOOP, (3,), (0, 1, 2), (1,), ("fuel", (), (), (), done, done), fuel=fuel)
        for fuel in (3, 4, 10 ** 20):
            self.assert_reverse(self.LOOP, (3,), (0, 1, 2), (1,), (None, (0,), (1,), (), 3, 3), fuel=fuel)
        text = "(state x) (beat (loop i 1000))"
        self.assert_reverse(text, (3,), (), (1,), ("fuel", (), (), (), 0, 300), fuel=10 ** 9)
        self.assert_reverse(text, (3,), (), (1,), ("fuel", (), (), (), 0, 300))

    def test_random_programs(self):
        faults = []
        for seed in range(900):
            tree, params, state, beat, fuel = random_case(seed)
            bars, tape = random_row(seed + 2, len(state)), random_row(seed + 3, seed % 23)
            fault, last, right_tape, _, _ = forward(tree, params, state, beat=beat)
            if fault is None and seed % 2:
                # The tape of the sweep with a number changed, one too many or one too few.
                tape = (right_tape + (0,), right_tape[1:], right_tape[:-1] + (1,), right_tape[:-1])[seed // 2 % 4]
                state = last
            with self.subTest(seed=seed):
                found = reverse(tree, params, state, tape, bars, beat=beat, fuel=fuel)
                self.assertEqual(found, oracle_reverse(make_adjoint(tree)[2], params, state, tape, bars, beat, fuel))
            faults.append(found[0])
        for fault in (None, "tape", "zero", "index", "fuel"):
            self.assertGreater(faults.count(fault), 2, fault)

    def test_deep_programs(self):
        """Statements, expressions and calls that are nested as deep as can be."""
        seven = "(add (mul (sub x 0) (sub x 0)) (mul (sub x 0) (sub x 0)))"
        nested = f"(if (zero {seven}) ((if (zero {seven}) ((if (zero {seven}) ((call f () (x))) ())) ())) ())"
        tree = read_program(f"(state x) (procedure f () ((x)) {nested}) (beat {nested})")
        self.assertEqual(forward(tree, (), (0,), beat=0)[0], "calls")
        counted = f"(if (less n 6) ((call f ((plus n 1)) (x))) ((set x {seven})))"
        tree = read_program(f"(state x) (procedure f (n) ((x)) (if (zero {seven}) ({counted}) ())) (beat (call f (1) (x)))")
        fault, last, tape, _, _ = forward(tree, (), (0,), beat=0)
        self.assertEqual((fault, last), (None, (0,)))
        self.assertEqual(reverse(tree, (), last, tape, (1,), beat=0)[:2], (None, (0,)))


class TestArguments(unittest.TestCase):
    """Points 11, 48 and 71."""

    TREE = read_program("(state x) (state v 2) (param k 2) (beat (set x (add x (at k 0))))")
    GOOD = {"params": (1, 2), "state": (3, 4, 5), "tape": (6,), "bars": (7, 8, 9), "beat": 1}
    NO_ROWS = (
        None, 1, True, "abc", "a", {1: 2}, {1, 2, 3}, range(3), b"abc", iter((1, 2, 3)), (1, True), (False, 1, 2), [1, None],
        (1, 2, "3"), [1.0, 2], ((1,), 2), [[1, 2, 3]], (1, 2, None), [True], (None,),
    )
    SHORT_OR_LONG = ((), [], (1,), (1, 2, 3, 4), [1] * 5)

    def forward(self, tree=TREE, **changed):
        given = {**self.GOOD, **changed}
        return forward(tree, given["params"], given["state"], beat=given["beat"])

    def reverse(self, tree=TREE, **changed):
        given = {**self.GOOD, **changed}
        return reverse(tree, given["params"], given["state"], given["tape"], given["bars"], beat=given["beat"])

    def assert_refused(self, call, reason, **changed):
        with self.subTest(call=call.__name__, **changed):
            with self.assertRaises(ArgumentError) as caught:
                call(**changed)
            self.assertEqual(caught.exception.reason, reason)

    def test_good_arguments(self):
        self.assertEqual(self.forward(), (None, (4, 4, 5), (3,), 1, 1))
        self.assertEqual(self.reverse(), (None, (6, 4, 5), (7, 8, 9), (7, 0), 2, 0))

    def test_trees_are_checked_as_check_does(self):
        for tree, path, reason in (
            (None, (), "shape"), (((), (), (), ()), (), "limits"), (read_program("(state x) (beat (set y 1))"), (0, 0), "scope"),
        ):
            for call in (self.forward, self.reverse):
                with self.assertRaises(TreeError) as caught:
                    call(tree=tree, params=None, state=None, tape=None, bars=None, beat=None)
                self.assertEqual((caught.exception.path, caught.exception.reason), (path, reason))

    def test_rows(self):
        for row in self.NO_ROWS:
            for call, names in ((self.forward, ("params", "state")), (self.reverse, ("params", "state", "tape", "bars"))):
                for name in names:
                    self.assert_refused(call, name, **{name: row})
        for row in self.SHORT_OR_LONG:
            for call, names in ((self.forward, ("params", "state")), (self.reverse, ("params", "state", "bars"))):
                for name in names:
                    self.assert_refused(call, name, **{name: row})
        for call in (self.forward, self.reverse):
            self.assert_refused(call, "params", params=(1, 2, 3))
            self.assert_refused(call, "state", state=(1, 2))
        self.assert_refused(self.reverse, "bars", bars=(1, 2))

    def test_tapes_of_any_length(self):
        for tape in ((), [], (1, 2), [1, 2, 3], (5,) * 1000):
            self.assertEqual(self.reverse(tape=tape)[0], "tape")
        self.assertEqual(self.reverse(tape=[6]), self.reverse())

    def test_tuples_lists_and_integers_that_are_reduced(self):
        for params, state, tape, bars in (
            ([1, 2], [3, 4, 5], [6], [7, 8, 9]), ((1 - PRIME, 2 + PRIME), (3 - 2 * PRIME, 4, 5), (6 + PRIME ** 3,), (7, 8, 9 - PRIME)),
        ):
            self.assertEqual(self.forward(params=params, state=state), self.forward())
            self.assertEqual(self.reverse(params=params, state=state, tape=tape, bars=bars), self.reverse())
        self.assertEqual(self.reverse(tape=(-1,))[1], (LAST, 4, 5))
        self.assertEqual(self.forward(state=(-1, -2, PRIME))[2], (LAST,))

    def test_the_number_of_the_beat(self):
        for beat in (0, 1, MAX_BEATS - 1):
            self.assertEqual(self.forward(beat=beat), self.forward())
            self.assertEqual(self.reverse(beat=beat), self.reverse())
        for beat in (-1, MAX_BEATS, MAX_BEATS + 1, True, False, None, "1", (1,), 1.0):
            self.assert_refused(self.forward, "beats", beat=beat)
            self.assert_refused(self.reverse, "beats", beat=beat)

    def test_order(self):
        wrong = {"params": None, "state": (True,) * 3, "tape": 5, "bars": (), "beat": MAX_BEATS}
        for reason in ("params", "state", "tape", "bars", "beat"):
            if reason not in ("tape", "bars"):
                self.assert_refused(self.forward, "beats" if reason == "beat" else reason, **wrong)
            self.assert_refused(self.reverse, "beats" if reason == "beat" else reason, **wrong)
            del wrong[reason]

    def test_fuel_is_not_checked(self):
        tree = read_program("(state x) (beat)")
        for fuel in (-10 ** 20, 0, 10 ** 20):
            self.assertEqual(forward(tree, (), (1,), beat=0, fuel=fuel), (None, (1,), (), 0, 0))
            self.assertEqual(reverse(tree, (), (1,), (), (2,), beat=0, fuel=fuel), (None, (1,), (2,), (), 0, 0))

    def test_arguments_are_not_changed(self):
        """Point 5."""
        tree = read_program(EVERY_SORT)
        params, state, bars = [6, -7, 8], [3, 4 + PRIME, 5, 1, 2, 3, 4], [1, 2, 3, 4, 5, 6, -7]
        before = copy.deepcopy((params, state, bars))
        first = forward(tree, params, state, beat=1)
        tape, last = list(first[2]), list(first[1])
        rows_before = copy.deepcopy((tape, last))
        second = reverse(tree, params, last, tape, bars, beat=1)
        self.assertIsNone(second[0])
        self.assertEqual(forward(tree, params, state, beat=1), first)
        self.assertEqual(reverse(tree, params, last, tape, bars, beat=1), second)
        self.assertEqual(((params, state, bars), (tape, last)), (before, rows_before))


class TestOracle(unittest.TestCase):
    def test_sweep_of_the_tests(self):
        """The machine of the tests has what the document says of the example."""
        program = make_adjoint(read_program("(state x) (param k) (beat (set x (add (mul x x) k)))"))[2]
        self.assertIsNone(sweep(program, program[3], (1,), (3,), (), (0,), 0, 300)[0])
        self.assertEqual(oracle_forward(program, (1,), (3,), 0)[:2], (None, (10,)))
        self.assertEqual(oracle_reverse(program, (1,), (10,), (3, 9), (1,), 0)[:4], (None, (3,), (6,), (1,)))


if __name__ == "__main__":
    unittest.main()
