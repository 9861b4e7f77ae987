"""Points 1, 2, 5, 10 to 13 and 42 to 48: the plain meaning of programs."""

import copy
import unittest

from countermarch.checking import cells
from countermarch.errors import ArgumentError, TreeError
from countermarch.field import combine, combine_duals, dot, inverse
from countermarch.limits import MAX_BEATS, MAX_CALLS, MAX_FUEL, PRIME
from countermarch.plain import dual_run, run, run_beat
from countermarch.words import read_program
from oracle import oracle_beat, oracle_run
from programs import random_program, random_row

LAST = PRIME - 1
PLACE = ("place", "x", None)
SQUARE_BEAT = (("set", ("x", None), ("add", ("mul", PLACE, PLACE), ("place", "k", None))),)
SQUARE = ((("x", 0),), (("k", 0),), (), SQUARE_BEAT)
OPERATIONS = ("add", "sub", "mul", "div")


def ints(count, *values):
    """The row with these values, and 0 behind them."""
    return values + (0,) * (count - len(values))


class PlainCase(unittest.TestCase):
    def beat(self, text, state, params=(), beat=0, fuel=MAX_FUEL):
        return run_beat(read_program(text), params, state, beat=beat, fuel=fuel)

    def assert_beat(self, text, state, last, params=(), beat=0):
        """The beat has no fault and this last state."""
        with self.subTest(text=text, state=state, beat=beat):
            result = self.beat(text, state, params, beat)
            self.assertIs(type(result), tuple)
            self.assertEqual(result[:2], (None, last))
            self.assertIs(type(result[1]), tuple)

    def assert_fault(self, text, state, fault, params=(), beat=0, fuel=MAX_FUEL):
        with self.subTest(text=text, state=state, beat=beat):
            self.assertEqual(self.beat(text, state, params, beat, fuel)[:2], (fault, ()))

    def assert_counts(self, text, state, fault, counts, fuel=MAX_FUEL):
        """The beat has this fault, or None, and these ticks, operations and assignments."""
        with self.subTest(text=text, state=state, fuel=fuel):
            result = self.beat(text, state, fuel=fuel)
            self.assertEqual((result[0], result[2:]), (fault, counts))


class TestRuns(PlainCase):
    """Points 1, 12 and 42, and the example of the interface."""

    def test_example(self):
        self.assertEqual(run(SQUARE, (1,), (3,), beats=2), (None, (101,)))
        self.assertEqual(run(SQUARE, (1,), (3,), beats=0), (None, (3,)))
        self.assertEqual(run(SQUARE, (1,), (3,), beats=1), (None, (10,)))

    def test_beats_follow_each_other(self):
        tree = read_program("(state x) (state y) (beat (set y x) (set x (add x 2)))")
        for beats in range(1, MAX_BEATS + 1):
            self.assertEqual(run(tree, (), (5, 9), beats=beats), (None, (5 + 2 * beats, 3 + 2 * beats)))

    def test_run_is_beat_after_beat(self):
        for seed in range(40):
            tree = random_program(seed)
            params, state = random_row(seed, cells(tree[1])), random_row(seed + 1, cells(tree[0]))
            fault, last = None, state
            for beat in range(4):
                self.assertEqual(run(tree, params, state, beats=beat), (None, last))
                fault, last = run_beat(tree, params, last, beat=beat)[:2]
                if fault is not None:
                    break
            expected = (None, last) if fault is None else ((fault, beat), ())
            self.assertEqual(run(tree, params, state, beats=4), expected)

    def test_number_of_the_beat(self):
        tree = read_program("(state v 5) (beat (set (at v beat) 1))")
        self.assertEqual(run(tree, (), (0,) * 5, beats=5), (None, (1,) * 5))
        self.assertEqual(run(tree, (), (0,) * 5, beats=6), (("index", 5), ()))
        for beat in range(5):
            row = tuple(int(at == beat) for at in range(5))
            self.assert_beat("(state v 5) (beat (set (at v beat) 1))", (0,) * 5, row, beat=beat)

    def test_number_of_the_beat_in_procedures(self):
        text = "(state v 8) (procedure f () ((a 8)) (set (at a beat) 7)) (beat (call f () (v)))"
        self.assert_beat(text, (0,) * 8, (0, 0, 0, 7, 0, 0, 0, 0), beat=3)

    def test_fault_of_a_run_and_its_beat(self):
        tree = read_program("(state x) (beat (set x (sub x 1)) (set x (div x x)) (set x (mul 1 x)))")
        self.assertEqual(run(tree, (), (1,), beats=3), (("zero", 0), ()))
        self.assertEqual(run(tree, (), (2,), beats=1), (None, (1,)))
        self.assertEqual(run(tree, (), (2,), beats=2), (("zero", 1), ()))
        self.assertEqual(run(tree, (), (2,), beats=40), (("zero", 1), ()))
        tree = read_program("(state x) (beat (if (equal beat 39) ((set x (div 1 0))) ()))")
        self.assertEqual(run(tree, (), (2,), beats=39), (None, (2,)))
        self.assertEqual(run(tree, (), (2,), beats=40), (("zero", 39), ()))

    def test_parameters_stay(self):
        tree = read_program("(state x) (param k) (param w 2) (beat (set x (add (mul x k) (at w 1))))")
        self.assertEqual(run(tree, (2, 0, 1), (1,), beats=5), (None, (63,)))


class TestStatements(PlainCase):
    """Points 13, 43 and 44."""

    def test_body_in_order(self):
        self.assert_beat("(state x) (beat (set x (add x 1)) (set x (mul x 2)))", (5,), (12,))
        self.assert_beat("(state x) (beat)", (5,), (5,))

    def test_set(self):
        self.assert_beat("(state x) (state y) (beat (set y x))", (5, 7), (5, 5))
        self.assert_beat("(state x) (state v 3) (beat (set (at v 1) x))", (5, 1, 2, 3), (5, 1, 5, 3))
        self.assert_beat("(state x) (beat (set x 2147483646))", (5,), (LAST,))
        self.assert_beat("(state v 2) (beat (set (at v (rem 5 2)) (add (at v 0) (at v 1))))", (3, 4), (3, 7))

    def test_indexes_count_from_zero(self):
        for at in range(3):
            row = tuple(9 if k == at else k for k in range(3))
            self.assert_beat(f"(state v 3) (beat (set (at v {at}) 9))", (0, 1, 2), row)
            self.assert_beat(f"(state x) (state v 3) (beat (set x (at v {at})))", (0, 5, 6, 7), (5 + at, 5, 6, 7))

    def test_loop(self):
        text = "(state x) (state v 4) (beat (loop i {} (set (at v i) 1) (set x (add x 1))))"
        for count in ("0", "(minus 2 2)", "(minus 2 5)", "(minus 0 1000)"):
            self.assert_beat(text.format(count), (5, 0, 0, 0, 0), (5, 0, 0, 0, 0))
        self.assert_beat(text.format("1"), (5, 0, 0, 0, 0), (6, 1, 0, 0, 0))
        self.assert_beat(text.format("(plus 1 2)"), (5, 0, 0, 0, 0), (8, 1, 1, 1, 0))
        self.assert_beat(text.format("beat"), (5, 0, 0, 0, 0), (9, 1, 1, 1, 1), beat=4)

    def test_integers_of_a_loop_ascend(self):
        self.assert_beat(
            "(state x) (state v 4) (beat (loop i 4 (set x (add (mul x 10) (at v i)))))", (0, 1, 2, 3, 4), (1234, 1, 2, 3, 4)
        )

    def test_loops_inside_loops(self):
        text = "(state x) (beat (loop i 4 (loop j i (set x (add x 1))) (loop j (minus i 2) (set x (add x 100)))))"
        self.assert_beat(text, (0,), (106,))

    def test_a_loop_without_a_body(self):
        self.assert_counts("(state x) (beat (loop i 7))", (1,), None, (7, 0, 0))

    def test_if(self):
        text = "(state x) (state y) (beat (if (zero x) ((set y 1) (set y (add y 1))) ((set y 3))))"
        self.assert_beat(text, (0, 9), (0, 2))
        self.assert_beat(text, (5, 9), (5, 3))
        self.assert_beat("(state x) (beat (if (zero x) () ()))", (0,), (0,))
        self.assert_beat("(state x) (beat (if (zero x) ((set x 5)) ((set x 0))) (if (zero x) ((set x 7)) ()))", (1,), (7,))

    def test_let(self):
        self.assert_beat("(state x) (beat (let t (add x 1) (set t (mul t t)) (set x t)))", (3,), (16,))
        self.assert_beat("(state x) (beat (let t x (set x 7) (let u x (set x (sub u t)))))", (3,), (4,))
        self.assert_beat("(state x) (beat (let t 4) (let t 5 (set x t)))", (3,), (5,))

    def test_a_let_begins_anew_in_a_loop(self):
        self.assert_beat("(state x) (beat (loop i 3 (let t 1 (set t (add t 1)) (set x (add x t)))))", (0,), (6,))

    def test_call_with_integers(self):
        text = "(state v 4) (procedure f (i j) ((a 4)) (set (at a i) (at a j))) (beat (call f ({}) (v)))"
        self.assert_beat(text.format("0 3"), (1, 2, 3, 4), (4, 2, 3, 4))
        self.assert_beat(text.format("3 0"), (1, 2, 3, 4), (1, 2, 3, 1))
        self.assert_beat(text.format("(plus 1 1) beat"), (1, 2, 3, 4), (1, 2, 2, 4), beat=1)

    def test_references_to_scalars(self):
        text = "(state x) (state y) (procedure f () ((a) (b)) (set a (add a b)) (set b 7)) (beat (call f () ({})))"
        self.assert_beat(text.format("x y"), (2, 3), (5, 7))
        self.assert_beat(text.format("y x"), (2, 3), (7, 5))

    def test_references_to_arrays(self):
        text = "(state v 2) (state u 2) (procedure f () ((a 2) (b 2)) (set (at a 0) (at b 1)) (set (at b 0) 9))"
        self.assert_beat(text + "(beat (call f () (v u)))", (1, 2, 3, 4), (4, 2, 9, 4))
        self.assert_beat(text + "(beat (call f () (u v)))", (1, 2, 3, 4), (9, 2, 2, 4))

    def test_references_to_local_scalars(self):
        text = "(state x) (procedure f () ((a)) (set a (mul a a))) (beat (let t 5 (call f () (t)) (set x t)))"
        self.assert_beat(text, (1,), (25,))

    def test_references_handed_on(self):
        text = (
            "(state x) (state y) (procedure f () ((a)) (set a (add a 1)))"
            "(procedure g () ((b) (c)) (call f () (c)) (let t 1 (call f () (t)) (set b t)))"
            "(beat (call g () (x y)))"
        )
        self.assert_beat(text, (10, 20), (2, 21))

    def test_a_swap_in_each_nested_call(self):
        text = (
            "(state x) (state y) (procedure f (n) ((a) (b)) (set a (add a 1))"
            " (if (less 0 n) ((call f ((minus n 1)) (b a))) ())) (beat (call f (4) (x y)))"
        )
        self.assert_beat(text, (10, 20), (13, 22))

    def test_a_procedure_sees_parameters(self):
        text = (
            "(state x) (param k) (param w 2) (procedure f (i) ((a)) (set a (add k (at w i))))"
            "(procedure g () ((k1)) (call f (1) (k1))) (beat (call f (0) (x)) (call g () (x)))"
        )
        self.assert_beat(text, (0,), (105,), params=(100, 4, 5))

    def test_names_of_the_state_in_procedures(self):
        text = "(state x) (state y) (procedure f (y) ((x)) (loop i y (set x (add x 1)))) (beat (call f (3) (y)))"
        self.assert_beat(text, (10, 20), (10, 23))
        text = "(state x) (procedure f () () (let x 5 (set x 6))) (beat (call f () ()))"
        self.assert_beat(text, (10,), (10,))

    def test_integers_of_the_caller_stay(self):
        text = (
            "(state v 4) (procedure f (i) ((a 4)) (loop j 2) (if (less 0 i) ((call f ((minus i 1)) (a))) ())"
            " (set (at a i) (add (at a i) 1))) (beat (loop i 2 (loop j 2 (call f (i) (v)) (set (at v (plus 2 j)) 5))))"
        )
        self.assert_beat(text, (0, 0, 0, 0), (4, 2, 5, 5))


class TestIndexes(PlainCase):
    """Points 10, 12 and 43: the values of index expressions."""

    def value_of(self, index, beat=0):
        """Count the rounds of a loop, with 20 added so that negative values are seen too."""
        text = f"(state x) (beat (loop i (plus {index} 20) (set x (add x 1))))"
        fault, last = self.beat(text, (0,), beat=beat)[:2]
        return fault if fault is not None else last[0] - 20

    def assert_value(self, index, value, beat=0):
        with self.subTest(index=index):
            self.assertEqual(self.value_of(index, beat), value)

    def test_each_index_expression(self):
        self.assert_value("0", 0)
        self.assert_value("7", 7)
        self.assert_value("beat", 0)
        self.assert_value("beat", 39, beat=39)
        self.assert_value("(plus 3 4)", 7)
        self.assert_value("(minus 3 4)", -1)
        self.assert_value("(minus 4 3)", 1)
        self.assert_value("(times 3 4)", 12)
        self.assert_value("(times (minus 0 3) 4)", -12)
        self.assert_value("(times (minus 0 3) (minus 0 4))", 12)
        self.assert_value("(rem 7 3)", 1)
        self.assert_value("(rem 1000 1000)", 0)
        self.assert_value("(rem 99 1000)", 99)
        self.assert_value("(rem 7 1)", 0)

    def test_rem_of_negative_values(self):
        for value, divisor in ((-1, 3), (-3, 3), (-4, 3), (-7, 10), (-1000, 7), (-1, 1)):
            remainder = value + divisor * next(k for k in range(2000) if value + divisor * k >= 0)
            self.assert_value(f"(rem (minus 0 {-value}) {divisor})", remainder)

    def test_index_names(self):
        self.assert_beat("(state v 3) (beat (loop i 3 (set (at v (minus 2 i)) (at v i))))", (1, 2, 3), (1, 2, 1))

    def limits(self, index):
        return self.beat(f"(state x) (beat (if (less 0 {index}) () ()))", (0,))[0]

    def test_exactly_1000_either_way(self):
        for index in (
            "1000", "(plus 999 1)", "(plus 1000 0)", "(minus 0 1000)", "(minus (minus 0 999) 1)", "(times 500 2)",
            "(times (minus 0 500) 2)", "(times 1000 1)", "(plus (minus 0 1000) 1000)", "(plus 1000 (minus 0 1000))",
        ):
            with self.subTest(index=index):
                self.assertIsNone(self.limits(index))

    def test_1001_either_way(self):
        for index in (
            "(plus 1000 1)", "(plus 1 1000)", "(minus (minus 0 1000) 1)", "(minus 1000 (minus 0 1))",
            "(times 7 143)", "(times (minus 0 7) 143)", "(times 1000 1000)", "(times (minus 0 1000) 1000)",
            "(minus (plus 1000 1) 1)", "(rem (plus 1000 1) 5)", "(rem (minus (minus 0 1000) 1) 5)", "(times (plus 501 500) 0)",
        ):
            with self.subTest(index=index):
                self.assertEqual(self.limits(index), "index")

    def test_every_place_of_an_index_may_have_the_fault(self):
        for statement in (
            "(loop i (plus 1000 1))", "(set (at v (rem (plus 1000 1) 2)) 1)", "(set x (at v (rem (plus 1000 1) 2)))",
            "(if (less 1 (plus 1000 1)) () ())", "(if (equal (plus 1000 1) 1) () ())", "(call f ((plus 1000 1)) ())",
            "(if (not (less (minus 1 (times 1000 2)) 0)) () ())", "(let t (at v (rem (plus 1000 1) 2)))",
        ):
            self.assert_fault(f"(state x) (state v 2) (procedure f (i) ()) (beat {statement})", (0, 0, 0), "index")

    def test_indexes_that_an_array_does_not_have(self):
        for index in ("3", "1000", "(minus 0 1)", "(minus 2 5)", "(minus 0 1000)", "(minus 0 3)"):
            self.assert_fault(f"(state x) (state v 3) (beat (set x (at v {index})))", (0,) * 4, "index")
            self.assert_fault(f"(state x) (state v 3) (beat (set (at v {index}) 1))", (0,) * 4, "index")
            self.assert_fault(f"(state x) (param k 3) (beat (let t (at k {index})))", (0,), "index", params=(0,) * 3)
        self.assert_fault("(state v 1) (beat (set (at v 1) 1))", (0,), "index")
        self.assert_beat("(state v 1) (beat (set (at v 0) 1))", (0,), (1,))

    def test_cells_of_other_variables_are_not_reached(self):
        text = "(state x) (state v 2) (state y) (beat (set (at v {}) 1))"
        self.assert_fault(text.format("2"), (0, 0, 0, 0), "index")
        self.assert_fault(text.format("(minus 0 1)"), (0, 0, 0, 0), "index")


class TestTests(PlainCase):
    """Point 43: tests."""

    def assert_test(self, test, expected, state=(0, 5)):
        text = f"(state x) (state y) (beat (if {test} ((set x 1)) ((set x 2))))"
        self.assert_beat(text, state, (1 if expected else 2,) + state[1:])

    def test_less_and_equal(self):
        for left in ("(minus 0 3)", "0", "2", "3"):
            for right in ("(minus 0 3)", "0", "2", "3"):
                a, b = [-3 if word == "(minus 0 3)" else int(word) for word in (left, right)]
                self.assert_test(f"(less {left} {right})", a < b)
                self.assert_test(f"(equal {left} {right})", a == b)

    def test_zero(self):
        self.assert_test("(zero 0)", True)
        self.assert_test("(zero 1)", False)
        self.assert_test("(zero 2147483646)", False)
        self.assert_test("(zero y)", False)
        self.assert_test("(zero y)", True, state=(7, 0))
        self.assert_test("(zero (add y 2147483642))", True)
        self.assert_test("(zero (sub y 4))", False)

    def test_not(self):
        self.assert_test("(not (zero 0))", False)
        self.assert_test("(not (less 2 1))", True)
        self.assert_test("(not (not (equal 1 1)))", True)
        self.assert_test("(not (not (not (equal 1 1))))", False)


class TestExpressions(PlainCase):
    """Points 2, 16 and 43: expressions."""

    def assert_value(self, expression, value):
        text = f"(state x) (state y) (state v 2) (beat (set x {expression}))"
        self.assert_beat(text, (3, 5, 7, 11), (value, 5, 7, 11))

    def test_operations(self):
        for op in OPERATIONS:
            self.assert_value(f"({op} x y)", combine(op, 3, 5))
            self.assert_value(f"({op} y x)", combine(op, 5, 3))
            self.assert_value(f"({op} 2 (at v 1))", combine(op, 2, 11))
            self.assert_value(f"({op} ({op} y x) (mul x y))", combine(op, combine(op, 5, 3), 15))
            self.assert_value(f"({op} y ({op} (at v 0) 2))", combine(op, 5, combine(op, 7, 2)))

    def test_numbers_of_the_field(self):
        self.assert_value("(sub x y)", PRIME - 2)
        self.assert_value("(add 2147483646 x)", 2)
        self.assert_value("(mul 2147483646 2147483646)", 1)
        self.assert_value("(div 1 2)", inverse(2))
        self.assert_value("(mul (div x y) y)", 3)

    def test_division_by_zero(self):
        for expression in ("(div x 0)", "(div 0 0)", "(div x (sub y 5))", "(add 1 (div x (at v 0)))", "(div x (sub x x))"):
            for statement in (f"(set x {expression})", f"(let t {expression})", f"(if (zero {expression}) () ())"):
                self.assert_fault(f"(state x) (state y) (state v 2) (beat {statement})", (3, 5, 0, 1), "zero")
        self.assert_beat("(state x) (beat (set x (div 0 x)))", (3,), (0,))


class TestOrder(PlainCase):
    """Points 12, 13 and 43: the first of two faults in the order of execution."""

    def assert_first(self, statement, fault, fuel=MAX_FUEL):
        text = "(state x) (state y) (state v 2) (procedure f (i j) ()) (procedure g () ((a)) (call g () (a)))"
        self.assert_fault(f"{text} (beat {statement})", (3, 0, 1, 2), fault, fuel=fuel)

    def test_operations_come_first(self):
        self.assert_first("(set x (add (at v 9) (div 1 0)))", "zero")
        self.assert_first("(set x (add (div 1 0) (at v 9)))", "zero")
        self.assert_first("(set x (div (at v 9) (mul (div 1 0) 1)))", "zero")
        self.assert_first("(set x (div (at v 9) 0))", "index")
        self.assert_first("(set x (div (at v 9) y))", "index")

    def test_operations_from_left_to_right(self):
        self.assert_first("(set x (add (mul (at v 9) 1) (div 1 0)))", "index")
        self.assert_first("(set x (add (div 1 0) (mul (at v 9) 1)))", "zero")
        self.assert_first("(set x (add (add 1 (at v 9)) (add (div 1 0) 1)))", "index")
        self.assert_first("(set x (add (add (at v 9) (div 1 0)) (add (at v 9) 1)))", "zero")

    def test_the_operation_is_made_last(self):
        self.assert_first("(set x (div (div 1 0) (at v 9)))", "zero")
        self.assert_first("(set x (div (add 1 2) (at v 9)))", "index")
        self.assert_first("(set x (div (at v 2) (sub 1 1)))", "index")

    def test_set(self):
        self.assert_first("(set (at v 9) (div 1 0))", "zero")
        self.assert_first("(set (at v (plus 1000 1)) (div 1 y))", "zero")
        self.assert_first("(set (at v 9) 1)", "index", fuel=0)
        self.assert_first("(set x (div 1 0))", "zero", fuel=0)
        self.assert_first("(set (at v 0) 1)", "fuel", fuel=0)
        self.assert_first("(set x 1) (set x (div 1 0))", "fuel", fuel=0)

    def test_the_expression_is_evaluated_before_the_place(self):
        self.assert_beat("(state v 2) (beat (set (at v 0) (add (at v 0) 1)))", (5, 1), (6, 1))

    def test_loop(self):
        self.assert_first("(loop i (plus 1000 1) (set x (div 1 0)))", "index", fuel=0)
        self.assert_first("(loop i 1 (set x (div 1 0)))", "fuel", fuel=0)
        self.assert_first("(loop i 1 (set x (div 1 0)))", "zero", fuel=1)
        self.assert_first("(loop i 0 (set x (div 1 0))) (set (at v 2) 1)", "index", fuel=0)

    def test_if(self):
        self.assert_first("(if (zero (div 1 0)) ((set (at v 9) 1)) ())", "zero")
        self.assert_first("(if (less (plus 1000 1) 1) ((set x (div 1 0))) ((set x (div 1 0))))", "index")
        self.assert_first("(if (zero y) ((set x (div 1 0))) ((set (at v 9) 1)))", "zero")
        self.assert_first("(if (zero x) ((set x (div 1 0))) ((set (at v 9) 1)))", "index")

    def test_call(self):
        self.assert_first("(call f ((plus 1000 1) 0) ())", "index", fuel=0)
        self.assert_first("(call f (0 (plus 1000 1)) ())", "index", fuel=0)
        self.assert_first("(call f (0 0) ())", "fuel", fuel=0)
        self.assert_first("(call g () (x))", "fuel", fuel=MAX_CALLS)
        self.assert_first("(call g () (x))", "calls", fuel=MAX_CALLS + 1)

    def test_let(self):
        self.assert_first("(let t (div 1 0) (set (at v 9) 1))", "zero")
        self.assert_first("(let t (at v 9) (set x (div 1 0)))", "index", fuel=0)


class TestCalls(PlainCase):
    """Points 12 and 44: calls within one another."""

    TEXT = (
        "(state x) (procedure f (n) ((a)) (set a (add a 1)) (if (less 1 n) ((call f ((minus n 1)) (a))) ()))"
        "(beat (call f ({}) (x)))"
    )

    def test_six_and_seven_calls(self):
        self.assertEqual(MAX_CALLS, 6)
        for many in range(1, 7):
            self.assert_beat(self.TEXT.format(many), (0,), (many,))
        self.assert_fault(self.TEXT.format(7), (0,), "calls")
        self.assert_fault(self.TEXT.format(1000), (0,), "calls")

    def test_counts_of_a_call_that_is_nested_too_deep(self):
        self.assert_counts(self.TEXT.format(6), (0,), None, (12, 6, 6))
        self.assert_counts(self.TEXT.format(7), (0,), "calls", (13, 6, 6))

    def test_calls_that_have_returned_do_not_count(self):
        self.assert_beat("(state x) (procedure f () ((a)) (set a (add a 1))) (beat (loop i 50 (call f () (x))))", (0,), (50,))
        text = self.TEXT.replace("(beat ", "(beat (call f (6) (x)) ")
        self.assert_beat(text.format(6), (0,), (12,))
        self.assert_fault(text.format(7), (0,), "calls")

    def test_calls_of_different_procedures(self):
        names = "abcdefgh"
        text = "(state x) (procedure a () ((y)) (set y (add y 1)))"
        for last, name in zip(names, names[1:]):
            text += f"(procedure {name} () ((y)) (call {last} () (y)))"
        self.assert_beat(text + "(beat (call f () (x)))", (0,), (1,))
        self.assert_fault(text + "(beat (call g () (x)))", (0,), "calls")
        self.assert_fault(text + "(beat (call h () (x)))", (0,), "calls")

    def test_calls_begin_anew_in_each_beat(self):
        self.assertEqual(run(read_program(self.TEXT.format(6)), (), (0,), beats=5), (None, (30,)))


class TestFaults(PlainCase):
    """Point 12: faults inside of loops and calls."""

    def test_in_a_loop(self):
        text = "(state x) (beat (loop i 5 (set x (div 6 (sub x 1)))))"
        self.assert_beat(text, (3,), (3,))
        self.assert_fault(text, (1,), "zero")
        self.assert_fault(text, (7,), "zero")
        self.assert_counts(text, (7,), "zero", (3, 3, 1))
        self.assert_fault("(state v 3) (beat (loop i 4 (set (at v i) 1)))", (0, 0, 0), "index")
        self.assert_counts("(state v 3) (beat (loop i 4 (set (at v i) 1)))", (0, 0, 0), "index", (7, 0, 3))

    def test_in_a_called_body(self):
        text = "(state v 3) (procedure f (i) ((a 3)) (set (at a i) (div 1 (at a i)))) (beat (call f ({}) (v)))"
        self.assert_beat(text.format(0), (1, 0, 1), (1, 0, 1))
        self.assert_fault(text.format(1), (1, 0, 1), "zero")
        self.assert_fault(text.format(3), (1, 0, 1), "index")
        self.assert_counts(text.format(1), (1, 0, 1), "zero", (1, 0, 0))

    def test_in_a_called_body_in_a_loop(self):
        text = "(state v 3) (procedure f (i) ((a 3)) (set (at a i) (div 1 (at a i)))) (beat (loop i 3 (call f (i) (v))))"
        self.assert_fault(text, (1, 0, 1), "zero")
        self.assert_counts(text, (1, 0, 1), "zero", (5, 1, 1))
        self.assert_counts(text, (1, 1, 1), None, (9, 3, 3))

    def test_what_is_not_executed_has_no_fault(self):
        self.assert_beat("(state x) (beat (if (zero x) () ((set x (div 1 0)))))", (0,), (0,))
        self.assert_beat("(state x) (beat (loop i 0 (set x (div 1 0))))", (0,), (0,))
        self.assert_beat("(state x) (procedure f () () (let t (div 1 0))) (beat (set x 1))", (0,), (1,))


class TestFuel(PlainCase):
    """Points 12 and 13: fuel."""

    SETS = "(state x) (beat" + " (set x (add x 1))" * 5 + ")"
    ENDLESS = "(state x) (beat (loop i 1000 (set x (add x 1))))"

    def test_exactly_enough_and_one_too_little(self):
        self.assertEqual(self.beat(self.SETS, (0,), fuel=5), (None, (5,), 5, 5, 5))
        self.assertEqual(self.beat(self.SETS, (0,), fuel=6), (None, (5,), 5, 5, 5))
        self.assertEqual(self.beat(self.SETS, (0,), fuel=4), ("fuel", (), 4, 5, 4))
        self.assertEqual(self.beat(self.SETS, (0,), fuel=1), ("fuel", (), 1, 2, 1))

    def test_zero_and_negative_fuel(self):
        for fuel in (0, -1, -300, -10 ** 30):
            self.assertEqual(self.beat(self.SETS, (0,), fuel=fuel), ("fuel", (), 0, 1, 0))
            self.assertEqual(self.beat("(state x) (beat)", (7,), fuel=fuel), (None, (7,), 0, 0, 0))
            self.assertEqual(self.beat("(state x) (beat (let t (add x 1)))", (7,), fuel=fuel), (None, (7,), 0, 1, 1))

    def test_more_than_the_most_fuel(self):
        self.assertEqual(MAX_FUEL, 300)
        for fuel in (300, 301, 1000, 10 ** 30):
            self.assertEqual(self.beat(self.ENDLESS, (0,), fuel=fuel), ("fuel", (), 300, 150, 150))
        self.assertEqual(self.beat(self.ENDLESS, (0,), fuel=299), ("fuel", (), 299, 150, 149))

    def test_fuel_by_default(self):
        tree = read_program(self.ENDLESS)
        self.assertEqual(run_beat(tree, (), (0,), beat=0), ("fuel", (), 300, 150, 150))
        self.assertEqual(run(tree, (), (0,), beats=1), (("fuel", 0), ()))
        self.assertEqual(dual_run(tree, (), (0,), (), (0,), beats=1), (("fuel", 0), (), ()))
        full = read_program("(state x) (beat (loop i 150 (set x (add x 1))))")
        self.assertEqual(run_beat(full, (), (0,), beat=0), (None, (150,), 300, 150, 150))
        self.assertEqual(run(full, (), (0,), beats=2), (None, (300,)))
        self.assertEqual(dual_run(full, (), (0,), (), (1,), beats=2), (None, (300,), (1,)))

    def test_what_spends_ticks(self):
        for text, ticks in (
            ("(set x 1)", 1), ("(set (at v 1) 1)", 1), ("(let t 1)", 0), ("(let t 1 (set t 2))", 1),
            ("(if (zero x) () ())", 0), ("(if (zero x) ((set x 1)) ())", 1), ("(loop i 3)", 3), ("(loop i 0)", 0),
            ("(loop i 3 (set x 1))", 6), ("(loop i 2 (loop j 2))", 6), ("(call f () ())", 1), ("(call g () (x))", 2),
            ("(call g () (x)) (loop i 1 (call g () (x)))", 5), ("(loop i (minus 0 5))", 0),
        ):
            head = "(state x) (state v 2) (procedure f () ()) (procedure g () ((a)) (set a 1))"
            result = self.beat(f"{head} (beat {text})", (0, 0, 0))
            self.assertEqual((result[0], result[2]), (None, ticks), text)
            for fuel in range(ticks):
                result = self.beat(f"{head} (beat {text})", (0, 0, 0), fuel=fuel)
                self.assertEqual((result[0], result[2]), ("fuel", fuel), text)

    def test_fuel_anew_in_each_beat(self):
        tree = read_program(self.SETS)
        self.assertEqual(run(tree, (), (0,), beats=40, fuel=5), (None, (200,)))
        self.assertEqual(run(tree, (), (0,), beats=40, fuel=4), (("fuel", 0), ()))
        self.assertEqual(dual_run(tree, (), (0,), (), (1,), beats=40, fuel=5), (None, (200,), (1,)))
        self.assertEqual(dual_run(tree, (), (0,), (), (1,), beats=40, fuel=4), (("fuel", 0), (), ()))
        tree = read_program("(state x) (beat (loop i beat (set x (add x 1))))")
        self.assertEqual(run(tree, (), (0,), beats=6, fuel=10), (None, (15,)))
        self.assertEqual(run(tree, (), (0,), beats=7, fuel=10), (("fuel", 6), ()))


class TestCounts(PlainCase):
    """Point 45: ticks, operations and assignments."""

    def test_without_a_fault(self):
        self.assert_counts("(state x) (beat)", (3,), None, (0, 0, 0))
        self.assert_counts("(state x) (beat (set x 1))", (3,), None, (1, 0, 1))
        self.assert_counts("(state x) (beat (set x (add (mul x x) (sub 1 (div 1 x)))))", (3,), None, (1, 4, 1))
        self.assert_counts("(state x) (beat (let t (add x 1) (set x t)))", (3,), None, (1, 1, 2))
        self.assert_counts("(state x) (beat (let t x) (let u 1))", (3,), None, (0, 0, 2))
        self.assert_counts("(state x) (beat (loop i 3 (set x (add x 1))))", (3,), None, (6, 3, 3))
        text = "(state x) (procedure f () ((a)) (let t (mul a a) (set a t))) (beat (call f () (x)) (call f () (x)))"
        self.assert_counts(text, (3,), None, (4, 2, 4))

    def test_indexes_and_tests_do_not_count(self):
        self.assert_counts("(state x) (beat (loop i (plus 1 (times 1 0))))", (3,), None, (1, 0, 0))
        self.assert_counts("(state v 2) (beat (set (at v (rem 5 2)) (at v (minus 1 1))))", (3, 4), None, (1, 0, 1))
        self.assert_counts("(state x) (beat (if (not (less (plus 1 1) 2)) () ()))", (3,), None, (0, 0, 0))
        self.assert_counts("(state x) (beat (if (zero x) () ()))", (3,), None, (0, 0, 0))

    def test_operations_of_a_zero_test_count(self):
        self.assert_counts("(state x) (beat (if (zero (sub x (add 1 2))) () ()))", (3,), None, (0, 2, 0))
        self.assert_counts("(state x) (beat (if (not (zero (mul x x))) () ()))", (3,), None, (0, 1, 0))

    def test_counts_begin_anew_in_each_beat(self):
        tree = read_program("(state x) (beat (set x (add x 1)))")
        self.assertEqual(run_beat(tree, (), (3,), beat=5), (None, (4,), 1, 1, 1))
        self.assertEqual(run_beat(tree, (), (3,), beat=5), (None, (4,), 1, 1, 1))

    def test_division_by_zero(self):
        self.assert_counts("(state x) (beat (set x (div x 0)))", (3,), "zero", (0, 0, 0))
        self.assert_counts("(state x) (beat (set x 1) (set x (add 1 (div x (sub x x)))))", (3,), "zero", (1, 1, 1))
        self.assert_counts("(state x) (beat (set x (add (mul x x) (div x 0))))", (3,), "zero", (0, 1, 0))
        self.assert_counts("(state x) (beat (set x (add (div x 0) (mul x x))))", (3,), "zero", (0, 0, 0))
        self.assert_counts("(state x) (beat (let t (div x 0)))", (3,), "zero", (0, 0, 0))
        self.assert_counts("(state x) (beat (let t (add x 1) (set x (div t 0))))", (3,), "zero", (0, 1, 1))
        self.assert_counts("(state x) (beat (if (zero (div (add x 1) 0)) () ()))", (3,), "zero", (0, 1, 0))

    def test_index(self):
        self.assert_counts("(state v 2) (beat (set (at v 2) (add 1 1)))", (3, 4), "index", (0, 1, 0))
        self.assert_counts("(state v 2) (beat (set (at v 0) (add (mul 1 1) (at v 2))))", (3, 4), "index", (0, 1, 0))
        self.assert_counts("(state v 2) (beat (let t (add 1 (at v 2))))", (3, 4), "index", (0, 0, 0))
        self.assert_counts("(state v 2) (beat (loop i 2 (set (at v (plus i 1)) 1)))", (3, 4), "index", (3, 0, 1))

    def test_fuel_that_ends(self):
        text = "(state x) (beat (set x (add x 1)) (loop i 2 (set x (mul x x))))"
        for fuel, counts in ((0, (0, 1, 0)), (1, (1, 1, 1)), (2, (2, 2, 1)), (3, (3, 2, 2)), (4, (4, 3, 2))):
            self.assert_counts(text, (3,), "fuel", counts, fuel=fuel)
        self.assert_counts(text, (3,), None, (5, 3, 3), fuel=5)
        self.assert_counts("(state x) (beat (let t (add x 1) (set x t)))", (3,), "fuel", (0, 1, 1), fuel=0)

    def test_calls(self):
        text = "(state x) (procedure f () ((a)) (let t (add a 1) (call f () (t)))) (beat (call f () (x)))"
        self.assert_counts(text, (3,), "calls", (7, 6, 6))


class TestDualRuns(PlainCase):
    """Points 2, 46 and 47."""

    def test_examples(self):
        self.assertEqual(dual_run(SQUARE, (1,), (3,), (1,), (0,), beats=2), (None, (101,), (21,)))
        states, by_x, by_k = (3, 10, 101), (1, 6, 120), (0, 1, 21)
        for beats in range(3):
            self.assertEqual(dual_run(SQUARE, (1,), (3,), (0,), (1,), beats=beats), (None, (states[beats],), (by_x[beats],)))
            self.assertEqual(dual_run(SQUARE, (1,), (3,), (1,), (0,), beats=beats), (None, (states[beats],), (by_k[beats],)))

    def test_results_are_tuples_of_numbers(self):
        fault, last, slopes = dual_run(SQUARE, [-1], [PRIME + 3], [-1], [PRIME + 1], beats=1)
        self.assertEqual((fault, last, slopes), (None, (8,), (5,)))
        self.assertEqual((type(last), type(slopes)), (tuple, tuple))

    def test_operations(self):
        for op in OPERATIONS:
            tree = read_program(f"(state x) (param k) (beat (set x ({op} x k)))")
            value, slope = combine_duals(op, (3, 11), (5, 7))
            self.assertEqual(dual_run(tree, (5,), (3,), (7,), (11,), beats=1), (None, (value,), (slope,)))

    def test_numbers_have_the_slope_zero(self):
        tree = read_program("(state x) (state y) (beat (set x 7) (set y (mul 3 y)))")
        self.assertEqual(dual_run(tree, (), (1, 2), (), (5, 6), beats=1), (None, (7, 6), (0, 18)))

    def test_slopes_pass_through_lets_loops_and_calls(self):
        tree = read_program(
            "(state x) (state v 2) (param k) (procedure f (i) ((a) (b 2)) (set (at b i) (mul a k)))"
            "(beat (let t (mul x x) (loop i 2 (call f (i) (t v)) (set t (add t x)))))"
        )
        # v is (x * x * k, (x * x + x) * k), with x = 3, k = 5, and the slopes 1 of x and 10 of k.
        self.assertEqual(
            dual_run(tree, (5,), (3, 0, 0), (10,), (1, 0, 0), beats=1), (None, (3, 45, 60), (1, 6 * 5 + 90, 7 * 5 + 120))
        )

    def test_zero_tests_look_at_the_value(self):
        tree = read_program("(state x) (state y) (beat (if (zero x) ((set y 1)) ((set y 2))))")
        self.assertEqual(dual_run(tree, (), (0, 0), (), (5, 5), beats=1), (None, (0, 1), (5, 0)))
        self.assertEqual(dual_run(tree, (), (3, 0), (), (0, 5), beats=1), (None, (3, 2), (0, 0)))

    def test_a_slope_is_no_divisor(self):
        tree = read_program("(state x) (state y) (beat (set x (div y x)))")
        self.assertEqual(dual_run(tree, (), (0, 1), (), (5, 0), beats=1), (("zero", 0), (), ()))
        self.assertEqual(dual_run(tree, (), (1, 6), (), (0, 0), beats=1), (None, (6, 6), (0, 0)))

    def test_faults(self):
        for text, fault in (
            ("(state x) (beat (if (equal beat 2) ((set x (div x 0))) ()))", ("zero", 2)),
            ("(state x) (state v 2) (beat (set x (at v beat)))", ("index", 2)),
            ("(state x) (beat (loop i 1000))", ("fuel", 0)),
            ("(state x) (procedure f () () (call f () ())) (beat (if (less beat 1) () ((call f () ()))))", ("calls", 1)),
        ):
            tree = read_program(text)
            state = ints(cells(tree[0]))
            self.assertEqual(run(tree, (), state, beats=5), (fault, ()))
            self.assertEqual(dual_run(tree, (), state, (), state, beats=5), (fault, (), ()))

    def arguments(self, seed):
        tree = random_program(seed)
        params, state = cells(tree[1]), cells(tree[0])
        rows = [random_row(seed * 9 + k, count) for k, count in enumerate((params, state, params, state, params, state))]
        return tree, rows[:2], rows[2:4], rows[4:]

    def test_value_fault_and_beat_of_the_run(self):
        for seed in range(200):
            tree, point, direction, _ = self.arguments(seed)
            for fuel in (MAX_FUEL, 7):
                found = dual_run(tree, *point, *direction, beats=3, fuel=fuel)
                self.assertEqual(found[:2], run(tree, *point, beats=3, fuel=fuel))
                if found[0] is not None:
                    self.assertEqual(found[2], ())

    def test_slopes_of_sums_of_directions(self):
        for seed in range(200):
            tree, point, one, other = self.arguments(seed)
            whole = [tuple(a + b for a, b in zip(*rows)) for rows in zip(one, other)]
            first, second, both = [dual_run(tree, *point, *rows, beats=3)[2] for rows in (one, other, whole)]
            self.assertEqual(both, tuple((a + b) % PRIME for a, b in zip(first, second)))

    def test_slopes_of_multiples(self):
        for seed in range(200):
            tree, point, direction, _ = self.arguments(seed)
            slopes = dual_run(tree, *point, *direction, beats=3)[2]
            for factor in (0, 2, LAST, 123456789):
                rows = [tuple(factor * a for a in row) for row in direction]
                found = dual_run(tree, *point, *rows, beats=3)[2]
                self.assertEqual(found, tuple(factor * a % PRIME for a in slopes))

    def test_a_beat_with_a_known_derivative(self):
        tree = read_program(
            "(state x) (param k 3)"
            "(beat (let t (add (at k 1) (mul x (at k 2))) (set x (add (at k 0) (mul x t)))))"
        )
        k, x = (4, 5, 6), 10
        slopes = [dual_run(tree, k, (x,), ints(3, *[0] * at, 1), (0,), beats=1)[2][0] for at in range(3)]
        self.assertEqual(slopes, [1, x, x * x])
        self.assertEqual(dual_run(tree, k, (x,), ints(3), (1,), beats=1)[2][0], 5 + 12 * x)
        whole = dual_run(tree, k, (x,), (7, 8, 9), (2,), beats=1)[2][0]
        self.assertEqual(whole, dot((7, 8, 9, 2), slopes + [5 + 12 * x]))


class TestAgainstTheOracle(PlainCase):
    """Points 42 to 47, against a second meaning that is written apart."""

    def test_beats(self):
        for seed in range(600):
            tree = random_program(seed)
            params, state = random_row(seed, cells(tree[1])), random_row(seed + 1, cells(tree[0]))
            fuel = (MAX_FUEL, 3, 10, 0, 20, -1, 1000)[seed % 7]
            with self.subTest(seed=seed):
                found = run_beat(tree, params, state, beat=seed % 40, fuel=fuel)
                self.assertEqual(found, oracle_beat(tree, params, state, seed % 40, fuel))

    def test_dual_runs(self):
        for seed in range(600, 900):
            tree = random_program(seed)
            rows = [random_row(seed + k, cells(tree[1 - k % 2])) for k in range(4)]
            with self.subTest(seed=seed):
                self.assertEqual(dual_run(tree, *rows, beats=seed % 5), oracle_run(tree, *rows, seed % 5))

    def test_random_programs_have_all_faults(self):
        found = [oracle_beat(*self.point(seed), 3, fuel)[0] for seed in range(300) for fuel in (12, 300)]
        for fault in (None, "zero", "index", "calls", "fuel"):
            self.assertGreater(found.count(fault), 2, fault)

    def point(self, seed):
        tree = random_program(seed)
        return tree, random_row(seed, cells(tree[1])), random_row(seed + 1, cells(tree[0]))


class TestArguments(unittest.TestCase):
    """Points 11 and 48."""

    TREE = read_program("(state x) (state v 2) (param k 2) (beat (set x (add x (at k 0))))")
    BAD_TREE = read_program("(state x) (beat (set y 1))")
    NO_ROWS = (
        (), (1,), (1, 2, 3, 4), [1], None, 1, "ab", "abc", {1: 2, 2: 3}, {1, 2}, True, range(3), b"ab", b"abc", iter((1, 2, 3)),
        (1, True), (1, 2, True), (False, 1, 2), (False, 1), [1, 2, False], [None, 1], (1, 2, None), (1, "2"), (1, 2, "3"),
        (1.0, 2), (1, 2, 3.0), ((1,), 2), (1, 2, (3,)), [[1, 2]], [[1, 2, 3]],
    )

    def calls(self, tree=TREE, params=(1, 2), state=(3, 4, 5), param_slopes=(6, 7), slopes=(8, 9, 10), beats=1, beat=1):
        return {
            "beat": lambda: run_beat(tree, params, state, beat=beat),
            "run": lambda: run(tree, params, state, beats=beats),
            "dual": lambda: dual_run(tree, params, state, param_slopes, slopes, beats=beats),
        }

    def assert_refused(self, names, reason, **changed):
        calls = self.calls(**changed)
        for name in names:
            with self.subTest(call=name, changed=changed):
                with self.assertRaises(ArgumentError) as caught:
                    calls[name]()
                self.assertEqual(caught.exception.reason, reason)

    def assert_same(self, **changed):
        """The changed arguments mean the same as those by default."""
        for call, changed_call in zip(self.calls().values(), self.calls(**changed).values()):
            self.assertEqual(call(), changed_call())

    def test_good_arguments(self):
        calls = self.calls()
        self.assertEqual(calls["beat"](), (None, (4, 4, 5), 1, 1, 1))
        self.assertEqual(calls["run"](), (None, (4, 4, 5)))
        self.assertEqual(calls["dual"](), (None, (4, 4, 5), (14, 9, 10)))

    def test_trees_are_checked_as_check_does(self):
        for tree, path, reason in (
            (self.BAD_TREE, (0, 0), "scope"), (None, (), "shape"), (((), (), (), ()), (), "limits"),
        ):
            for call in self.calls(tree=tree, params=None, state=None, slopes=None, param_slopes=None, beats=-1, beat=-1).values():
                with self.assertRaises(TreeError) as caught:
                    call()
                self.assertEqual((caught.exception.path, caught.exception.reason), (path, reason))

    def test_rows_of_parameters(self):
        for row in self.NO_ROWS:
            self.assert_refused(("beat", "run", "dual"), "params", params=row)
            self.assert_refused(("dual",), "param_slopes", param_slopes=row)
        self.assert_refused(("beat", "run", "dual"), "params", params=(1, 2, 3))
        self.assert_refused(("dual",), "param_slopes", param_slopes=(1, 2, 3))

    def test_rows_of_the_state(self):
        for row in self.NO_ROWS:
            self.assert_refused(("beat", "run", "dual"), "state", state=row)
            self.assert_refused(("dual",), "slopes", slopes=row)
        self.assert_refused(("beat", "run", "dual"), "state", state=(1, 2))
        self.assert_refused(("dual",), "slopes", slopes=(1, 2))

    def test_rows_of_a_program_without_parameters(self):
        tree = read_program("(state x) (beat (set x (add x 1)))")
        for empty in ((), []):
            self.assertEqual(run(tree, empty, (1,), beats=1), (None, (2,)))
            self.assertEqual(dual_run(tree, empty, (1,), empty, (1,), beats=1), (None, (2,), (1,)))
        self.assert_refused(("beat", "run", "dual"), "params", tree=tree, params=(0,))

    def test_tuples_and_lists(self):
        self.assert_same(params=[1, 2], state=[3, 4, 5], param_slopes=[6, 7], slopes=[8, 9, 10])

    def test_integers_are_reduced(self):
        self.assert_same(params=(1 - PRIME, 2), state=(3 + PRIME, 4, 5 - 7 * PRIME))
        self.assert_same(param_slopes=(6 + PRIME ** 3, 7), slopes=(8, 9 - PRIME, 10 + PRIME))
        tree = read_program("(state x) (param k) (beat)")
        self.assertEqual(run_beat(tree, (0,), (-1,), beat=0)[1], (LAST,))
        self.assertEqual(run(tree, (0,), (PRIME,), beats=0), (None, (0,)))
        self.assertEqual(dual_run(tree, (0,), [2 ** 64], (0,), [-5], beats=0), (None, (4,), (PRIME - 5,)))
        self.assertEqual(dual_run(tree, (0,), [2 ** 64], (0,), [-5], beats=1), (None, (4,), (PRIME - 5,)))

    def test_numbers_of_beats(self):
        for beats in (0, 1, MAX_BEATS):
            self.assertEqual(self.calls(beats=beats)["run"](), (None, (3 + beats, 4, 5)))
            self.assertEqual(self.calls(beats=beats)["dual"](), (None, (3 + beats, 4, 5), (8 + 6 * beats, 9, 10)))
        for beats in (-1, MAX_BEATS + 1, True, False, None, "1", (1,), 1.0):
            self.assert_refused(("run", "dual"), "beats", beats=beats)

    def test_the_number_of_a_beat(self):
        for beat in (0, 1, MAX_BEATS - 1):
            self.assertEqual(self.calls(beat=beat)["beat"](), (None, (4, 4, 5), 1, 1, 1))
        for beat in (-1, MAX_BEATS, MAX_BEATS + 1, True, False, None, "1", (1,), 1.0):
            self.assert_refused(("beat",), "beats", beat=beat)

    def test_order(self):
        wrong = {"params": None, "state": None, "param_slopes": None, "slopes": None, "beats": -1, "beat": -1}
        for reason, names in (
            ("params", ("beat", "run", "dual")), ("state", ("beat", "run", "dual")), ("param_slopes", ("dual",)),
            ("slopes", ("dual",)), ("beats", ("dual",)),
        ):
            self.assert_refused(names, reason, **wrong)
            del wrong[reason]
        self.assert_refused(("beat", "run"), "beats", beats=-1, beat=-1)

    def test_fuel_is_not_checked(self):
        for fuel in (-5, 0, 10 ** 20):
            self.assertEqual(run(self.TREE, (1, 2), (3, 4, 5), beats=0, fuel=fuel), (None, (3, 4, 5)))

    def test_results_do_not_hang_on_earlier_calls(self):
        """Point 5: no function modifies its arguments or remembers anything."""
        params, state, param_slopes, slopes = rows = [1, -2], [3, PRIME, 5], [6, 7], [-8, 9, 10]
        before = copy.deepcopy(rows)
        for _ in range(2):
            self.assertEqual(run_beat(self.TREE, params, state, beat=0), (None, (4, 0, 5), 1, 1, 1))
            self.assertEqual(run(self.TREE, params, state, beats=2), (None, (5, 0, 5)))
            found = dual_run(self.TREE, params, state, param_slopes, slopes, beats=2)
            self.assertEqual(found, (None, (5, 0, 5), (4, 9, 10)))
            self.assertEqual(rows, before)


if __name__ == "__main__":
    unittest.main()
