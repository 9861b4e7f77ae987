"""Points 72 to 78: code."""

import copy
import random
import unittest

from countermarch.checking import cells
from countermarch.code import check_code, run_forward, run_reverse, translate
from countermarch.errors import ArgumentError, CodeError, TreeError
from countermarch.limits import MAX_BEATS, MAX_CALLS, MAX_FUEL, PRIME
from countermarch.plain import run_beat
from countermarch.sweeps import forward, reverse
from countermarch.words import read_program
from programs import EVERY_SORT, random_case, random_program, random_row

LAST = PRIME - 1
END = (("return",),)
EMPTY = (0, 0, END)


class HandCase(unittest.TestCase):
    """Bodies that are written by hand, for a program with one procedure.

    Variables of the beat: x 0, v 1, k 2, w 3, and local scalars from 4 on. Variables of the procedure: p 0, q 1,
    k 2, w 3, and local scalars from 4 on. Cells: x, v, v, v, k, w, w.
    """

    TREE = read_program("(state x) (state v 3) (param k) (param w 2) (procedure f (i j) ((p) (q 3))) (beat)")
    STATE, PARAMS = (11, 12, 13, 14), (15, 16, 17)
    PROCEDURE = (2, 6, END)

    def code(self, forward_body=END, reverse_body=END, procedure=END, other=END):
        return (2, 6, procedure), (2, 6, other), (3, 7, forward_body), (3, 7, reverse_body)

    def forward(self, *instructions, state=STATE, fuel=MAX_FUEL, beat=5, **bodies):
        code = self.code(instructions + END, **bodies)
        return run_forward(code, self.TREE, self.PARAMS, state, beat=beat, fuel=fuel)

    def reverse(self, *instructions, tape=(), bars=(1, 2, 3, 4), fuel=MAX_FUEL, beat=5, **bodies):
        code = self.code(reverse_body=instructions + END, **bodies)
        return run_reverse(code, self.TREE, self.PARAMS, self.STATE, tape, bars, beat=beat, fuel=fuel)

    def assert_integers(self, instructions, *integers, **more):
        """These integers are on the stack at the end, the last one on the top; negative ones are reduced."""
        with self.subTest(instructions=instructions):
            result = self.forward(*instructions, *[("mark",)] * len(integers), **more)
            expected = tuple(integer % PRIME for integer in reversed(integers))
            self.assertEqual(result, (None, self.STATE, expected, 0, 0))

    def assert_numbers(self, instructions, *numbers, operations=0):
        with self.subTest(instructions=instructions):
            result = self.forward(*instructions, *[("push",)] * len(numbers))
            self.assertEqual(result, (None, self.STATE, tuple(reversed(numbers)), operations, 0))

    def assert_state(self, instructions, state, ticks=0, tape=(), **more):
        with self.subTest(instructions=instructions):
            self.assertEqual(self.forward(*instructions, **more), (None, state, tape, 0, ticks))

    def assert_fault(self, fault, *instructions, operations=0, ticks=0, **more):
        """The instructions have the fault, in a forward and in a reverse sweep."""
        with self.subTest(instructions=instructions):
            self.assertEqual(self.forward(*instructions, **more), (fault, (), (), operations, ticks))
            self.assertEqual(self.reverse(*instructions, **more), (fault, (), (), (), operations, ticks))

    def integers(self, *integers):
        """Instructions that push these integers, from -1000 to 1000."""
        instructions = ()
        for integer in integers:
            if integer < 0:
                instructions += (("integer", 0), ("integer", -integer), ("minus",))
            else:
                instructions += (("integer", integer),)
        return instructions

    def numbers(self, *numbers):
        return tuple(("number", number) for number in numbers)


class TestInstructions(HandCase):
    """Point 74."""

    def test_integers(self):
        self.assert_integers((("integer", 0), ("integer", 1000)), 0, 1000)
        self.assert_integers((("register", 0), ("register", 2)), 0, 0)
        self.assert_integers((("integer", 7), ("assign", 1), ("register", 1), ("register", 0)), 7, 0)
        self.assert_integers((("integer", 7), ("assign", 1), ("integer", 8), ("assign", 1), ("register", 1)), 8)
        for beat in (0, 5, MAX_BEATS - 1):
            self.assert_integers((("beat",),), beat, beat=beat)

    def test_integer_operations(self):
        for left, right in ((7, 3), (3, 7), (0, 5), (-4, 9), (-4, -9), (9, -9)):
            pushed = self.integers(left, right)
            self.assert_integers(pushed + (("plus",),), left + right)
            self.assert_integers(pushed + (("minus",),), left - right)
            self.assert_integers(pushed + (("times",),), left * right)
            self.assert_integers(pushed + (("less",),), int(left < right))
            self.assert_integers(pushed + (("equal",),), int(left == right))
        self.assert_integers(self.integers(5, 5) + (("less",),), 0)
        self.assert_integers(self.integers(5, 5) + (("equal",),), 1)
        for integer in (0, 7, 9, -1, -9, -10, 1000, -1000):
            self.assert_integers(self.integers(integer) + (("rem", 9),), integer % 9)
            self.assert_integers(self.integers(integer) + (("not",),), int(integer == 0))
        self.assert_integers(self.integers(3, 4, 5) + (("plus",),), 3, 9)

    def test_integers_beyond_the_limit(self):
        for left, right, op, fault in (
            (999, 1, "plus", None), (1000, 1, "plus", "index"), (-999, 1, "minus", None), (-1000, 1, "minus", "index"),
            (-1000, -1, "plus", "index"), (1000, -1, "minus", "index"), (500, 2, "times", None), (501, 2, "times", "index"),
            (-500, 2, "times", None), (-501, 2, "times", "index"), (-1000, -1000, "times", "index"),
        ):
            self.assertEqual(self.forward(*self.integers(left, right), (op,))[0], fault)

    def test_numbers(self):
        self.assert_numbers(self.numbers(0, LAST), 0, LAST)
        self.assert_numbers((("load", 0, False), ("load", 2, False)), 11, 15)
        self.assert_numbers(self.integers(2) + (("load", 1, True),), 14)
        self.assert_numbers(self.integers(1) + (("load", 3, True),), 17)
        self.assert_numbers((("load_bar", 0, False),) + self.integers(1) + (("load_bar", 1, True),), 0, 0)

    def test_number_operations(self):
        for op, result in (("add", 12), ("sub", 4), ("mul", 32), ("div", 2)):
            self.assert_numbers(self.numbers(8, 4) + ((op,),), result, operations=1)
        self.assert_numbers(self.numbers(4, 8) + (("sub",),), PRIME - 4, operations=1)
        self.assert_numbers(self.numbers(1, 2) + (("div",),), 1073741824, operations=1)
        self.assert_numbers(self.numbers(3, 4, 5) + (("mul",), ("add",)), 23, operations=2)
        self.assert_numbers(self.numbers(7, 8, 9) + (("sub",),), 7, LAST, operations=1)
        self.assert_fault("zero", *self.numbers(4, 0), ("div",))
        self.assert_fault("zero", *self.numbers(1, 2, 3, 3), ("sub",), ("div",), operations=1)

    def test_zero(self):
        self.assert_integers(self.numbers(0) + (("zero",),), 1)
        self.assert_integers(self.numbers(1) + (("zero",),), 0)
        self.assert_integers(self.numbers(0, LAST) + (("zero",),), 0)

    def test_store(self):
        self.assert_state(self.numbers(7) + (("store", 0, False),), (7, 12, 13, 14))
        self.assert_state(self.numbers(8) + self.integers(2) + (("store", 1, True),), (11, 12, 13, 8))
        self.assert_state(self.integers(0) + self.numbers(8) + (("store", 1, True),), (11, 8, 13, 14))

    def test_bars(self):
        result = self.reverse(
            ("load_bar", 0, False), ("store_bar", 2, False), *self.integers(2), ("load_bar", 1, True), *self.integers(1),
            ("store_bar", 3, True), *self.numbers(9), *self.integers(0), ("store_bar", 1, True),
        )
        self.assertEqual(result, (None, self.STATE, (1, 9, 3, 4), (1, 0, 4), 0, 0))

    def test_tape(self):
        self.assert_state((("load", 0, False), ("push",), ("number", 3), ("push",)), self.STATE, tape=(11, 3))
        result = self.reverse(("pop", 0, False), *self.integers(1), ("pop", 1, True), tape=(5, 6))
        self.assertEqual(result[:2], (None, (6, 12, 5, 14)))
        self.assert_state(self.integers(1, -1) + (("mark",), ("mark",)), self.STATE, tape=(LAST, 1))
        result = self.reverse(("unmark",), ("integer", 6), ("equal",), ("mark",), ("pop", 0, False), tape=(6,))
        self.assertEqual(result[:2], (None, (1, 12, 13, 14)))
        result = self.reverse(("unmark",), ("rem", 7), ("mark",), ("pop", 0, False), tape=(LAST,))
        self.assertEqual(result[:2], (None, (LAST % 7, 12, 13, 14)))

    def test_a_tape_that_is_left(self):
        self.assertEqual(self.reverse(("tick",), tape=(5,)), ("tape", (), (), (), 0, 1))
        self.assertEqual(self.reverse(("number", 1), ("push",)), ("tape", (), (), (), 0, 0))
        self.assertEqual(self.reverse(*self.numbers(1, 2), ("mul",), ("push",), tape=(3,)), ("tape", (), (), (), 1, 0))
        self.assertEqual(self.forward(("number", 1), ("push",)), (None, self.STATE, (1,), 0, 0))

    def test_tick(self):
        for fuel in (2, 3, 300, 10 ** 20):
            self.assert_state((("tick",), ("tick",)), self.STATE, ticks=2, fuel=fuel)
        self.assert_fault("fuel", ("tick",), ("tick",), ticks=1, fuel=1)
        for fuel in (0, -1, -10 ** 20):
            self.assert_fault("fuel", ("tick",), fuel=fuel)
        self.assert_fault("fuel", ("tick",), ("jump", 0), ticks=MAX_FUEL)
        self.assert_fault("fuel", ("tick",), ("jump", 0), ticks=MAX_FUEL, fuel=MAX_FUEL + 1)
        self.assert_fault("fuel", ("tick",), ("jump", 0), ticks=77, fuel=77)

    def test_branch_and_jump(self):
        for integer, last in ((0, 2), (1, 1), (-1, 1), (1000, 1)):
            pushed = self.integers(integer)
            at = len(pushed)
            instructions = pushed + (
                ("branch", at + 4), ("number", 1), ("store", 0, False), ("jump", at + 6), ("number", 2), ("store", 0, False),
            )
            self.assert_state(instructions, (last, 12, 13, 14))
        loop = (
            ("tick",), ("load", 0, False), ("number", 1), ("add",), ("store", 0, False), ("register", 0), ("integer", 1), ("plus",),
            ("assign", 0), ("register", 0), ("integer", 4), ("equal",), ("branch", 0),
        )
        self.assertEqual(self.forward(*loop), (None, (15, 12, 13, 14), (), 4, 4))

    def test_return_ends_the_run(self):
        self.assert_state((("number", 7), ("store", 0, False), ("return",), ("number", 8), ("store", 0, False)), (7, 12, 13, 14))

    def test_a_last_jump(self):
        code = self.code(
            (("tick",), ("register", 0), ("branch", 4), ("return",), ("integer", 1), ("assign", 0), ("jump", 0))
        )
        self.assertEqual(run_forward(code, self.TREE, self.PARAMS, self.STATE, beat=0), (None, self.STATE, (), 0, 2))

    def test_what_is_left_on_the_stacks(self):
        self.assert_state(self.numbers(1, 2) + self.integers(3), self.STATE)
        self.assert_state(self.numbers(1) + (("open", 4),), self.STATE)


class TestCalls(HandCase):
    """Points 73 to 75: calls and frames."""

    CALL = (("tick",), ("call", 0, 2, (0, 1)))

    def test_integers_become_registers(self):
        procedure = (("register", 0), ("mark",), ("register", 1), ("mark",), ("return",))
        self.assert_state(self.integers(7, 8, 9) + self.CALL, self.STATE, 1, (8, 9), procedure=procedure)
        call = (("tick",), ("call", 0, 1, (0, 1)))
        self.assert_state(self.integers(7, 8) + call, self.STATE, 1, (8, 0), procedure=procedure)
        call = (("tick",), ("call", 0, 0, (0, 1)))
        self.assert_state(self.integers(7, 8) + call, self.STATE, 1, (0, 0), procedure=procedure)
        # The integers that are taken are gone, and those below them are left.
        self.assert_state(self.integers(7, 8, 9) + self.CALL + (("mark",),), self.STATE, 1, (8, 9, 7), procedure=procedure)

    def test_registers_of_each_frame(self):
        procedure = (("integer", 99), ("assign", 1), ("return",))
        body = (("integer", 5), ("assign", 1)) + self.integers(1, 2) + self.CALL + (("register", 1), ("mark",))
        self.assert_state(body, self.STATE, 1, (5,), procedure=procedure)

    def test_variables_are_handed_over(self):
        procedure = (
            ("number", 1), ("store", 0, False), ("number", 2), ("integer", 2), ("store", 1, True),
            ("load", 2, False), ("push",), ("integer", 1), ("load", 3, True), ("push",), ("return",),
        )
        self.assert_state(self.integers(0, 0) + self.CALL, (1, 12, 13, 2), 1, (15, 17), procedure=procedure)

    def test_each_body_of_a_procedure(self):
        procedure, other = (("number", 1), ("push",), ("return",)), (("number", 2), ("push",), ("return",))
        for number, tape in ((0, (1,)), (1, (2,))):
            call = (("tick",), ("call", number, 0, (0, 1)))
            self.assert_state(call, self.STATE, 1, tape, procedure=procedure, other=other)

    def test_bars_are_handed_over(self):
        procedure = (("load_bar", 0, False), ("integer", 0), ("store_bar", 1, True), ("number", 5), ("store_bar", 0, False), ("return",))
        result = self.reverse(*self.integers(0, 0), *self.CALL, procedure=procedure)
        self.assertEqual(result, (None, self.STATE, (5, 1, 3, 4), (0, 0, 0), 0, 1))

    def test_local_scalars_of_each_frame(self):
        procedure = (("number", 3), ("open", 4), ("load", 4, False), ("push",), ("return",))
        body = (("number", 7), ("open", 4)) + self.integers(0, 0) + self.CALL + (("load", 4, False), ("push",))
        self.assert_state(body, self.STATE, 1, (3, 7), procedure=procedure)
        procedure = (("load", 4, False), ("return",))
        self.assert_fault("stuck", ("number", 7), ("open", 4), *self.integers(0, 0), *self.CALL, ticks=1, procedure=procedure)

    def test_a_local_scalar_is_handed_over(self):
        call = self.integers(0, 0) + (("tick",), ("call", 0, 2, (5, 1)))
        procedure = (("load", 0, False), ("push",), ("number", 8), ("store", 0, False), ("return",))
        self.assert_state(
            (("number", 7), ("open", 5)) + call + (("load", 5, False), ("push",)), self.STATE, 1, (7, 8), procedure=procedure
        )

    def test_a_local_scalar_without_a_cell_is_handed_over(self):
        call = self.integers(0, 0) + (("tick",), ("call", 0, 2, (5, 1)))
        self.assert_state(call, self.STATE, 1)
        for use in (("load", 0, False), ("load_bar", 0, False)):
            self.assert_fault("stuck", *call, ticks=1, procedure=(use, ("return",)))
        for use in (("store", 0, False), ("store_bar", 0, False)):
            self.assert_fault("stuck", *call, ticks=1, procedure=(("number", 1), use, ("return",)))
        closed = (("number", 7), ("open", 5), ("close", 5))
        self.assert_state(closed + call, self.STATE, 1)
        self.assert_fault("stuck", *closed, *call, ticks=1, procedure=(("load", 0, False), ("return",)))

    def test_the_same_variable_twice(self):
        tree = read_program("(state x) (procedure f () ((p) (q))) (beat)")
        procedure = (("number", 8), ("store", 0, False), ("load", 1, False), ("push",), ("return",))
        code = ((0, 2, procedure), (0, 2, END), (0, 1, (("tick",), ("call", 0, 0, (0, 0)), ("return",))), (0, 1, END))
        self.assertEqual(run_forward(code, tree, (), (3,), beat=0), (None, (8,), (8,), 0, 1))

    def test_most_calls(self):
        # The first register counts down how many calls are still to be made.
        procedure = (
            ("register", 0), ("branch", 8), ("register", 0), ("integer", 1), ("minus",), ("integer", 0), ("tick",),
            ("call", 0, 2, (0, 1)), ("number", 1), ("push",), ("return",),
        )
        for more in range(MAX_CALLS):
            result = self.forward(*self.integers(more, 0), *self.CALL, procedure=procedure)
            self.assertEqual(result, (None, self.STATE, (1,) * (more + 1), 0, more + 1))
        self.assert_fault("calls", *self.integers(MAX_CALLS, 0), *self.CALL, ticks=MAX_CALLS + 1, procedure=procedure)
        again = self.integers(MAX_CALLS - 1, 0) + self.CALL
        self.assertEqual(self.forward(*again, *again, procedure=procedure)[0], None)

    def test_order_of_faults(self):
        endless = self.integers(0, 0) + self.CALL
        one_integer = self.integers(0) + (("tick",), ("call", 0, 1, (0, 1)))
        self.assert_fault("calls", *one_integer, ticks=7, procedure=one_integer + (("return",),))
        self.assert_fault("stuck", *self.integers(0, 0), *self.CALL, ticks=2, procedure=self.CALL + (("return",),))
        self.assert_fault("stuck", ("integer", 0), *self.CALL, ticks=1)
        self.assert_fault("stuck", *endless, *self.CALL, ticks=2)
        # Nested as deep as can be, the call with wrong sizes has the fault "calls", and "stuck" if an integer is missing.
        for handed, pushed, fault in (((1, 0), 2, "calls"), ((0, 1), 1, "stuck"), ((1, 0), 1, "stuck")):
            procedure = (
                ("register", 0), ("integer", 5), ("less",), ("branch", 11), ("register", 0), ("integer", 1), ("plus",), ("integer", 0),
                ("tick",), ("call", 0, 2, (0, 1)), ("return",),
            ) + (("integer", 0),) * pushed + (("tick",), ("call", 0, 2, handed), ("return",))
            self.assert_fault(fault, *self.integers(0, 0), *self.CALL, ticks=7, procedure=procedure)

    def test_sizes(self):
        for handed in ((1, 1), (0, 0), (0, 3), (1, 0), (3, 1), (0, 5)):
            self.assert_fault("stuck", *self.integers(0, 0), ("tick",), ("call", 0, 2, handed), ticks=1)
        for handed in ((0, 1), (2, 1), (5, 1)):
            self.assert_state(self.integers(0, 0) + (("tick",), ("call", 0, 2, handed)), self.STATE, 1)


class TestLocals(HandCase):
    """Points 73 to 75: local scalars."""

    def test_open_and_close(self):
        opened = (("number", 7), ("open", 4))
        self.assert_numbers(opened + (("load", 4, False), ("load_bar", 4, False)), 7, 0)
        self.assert_fault("stuck", ("load", 4, False))
        self.assert_fault("stuck", *opened, ("close", 4), ("load", 4, False))
        self.assert_fault("stuck", *opened, ("load", 5, False))
        self.assert_state((("close", 4), ("close", 4)), self.STATE)
        self.assert_numbers(opened + (("close", 4), ("number", 8), ("open", 4), ("load", 4, False)), 8)

    def test_open_again(self):
        opened = (("number", 7), ("open", 4), ("number", 9), ("store_bar", 4, False))
        self.assert_numbers(opened + (("load_bar", 4, False),), 9)
        self.assert_numbers(opened + (("number", 8), ("open", 4), ("load", 4, False), ("load_bar", 4, False)), 8, 0)

    def test_values_and_bars(self):
        opened = (("number", 7), ("open", 4), ("number", 8), ("open", 5))
        stored = (("number", 1), ("store", 4, False), ("number", 2), ("store_bar", 5, False))
        loaded = (("load", 4, False), ("load_bar", 4, False), ("load", 5, False), ("load_bar", 5, False))
        self.assert_numbers(opened + stored + loaded, 1, 0, 8, 2)
        result = self.reverse(("number", 7), ("open", 4), ("pop", 4, False), ("load", 4, False), ("store", 0, False), tape=(3,))
        self.assertEqual(result[1], (3, 12, 13, 14))

    def test_a_local_scalar_has_no_index(self):
        for use in ("load", "load_bar"):
            self.assert_fault("stuck", ("number", 7), ("open", 4), ("integer", 0), (use, 4, True))


class TestFaults(HandCase):
    """Point 75: the first fault that an instruction looks for."""

    def test_missing_operands(self):
        for head in ("plus", "minus", "times", "less", "equal"):
            self.assert_fault("stuck", (head,))
            self.assert_fault("stuck", ("integer", 1), (head,))
            self.assert_fault("stuck", ("number", 1), ("integer", 1), (head,))
        for head in ("add", "sub", "mul", "div"):
            self.assert_fault("stuck", (head,))
            self.assert_fault("stuck", ("number", 0), (head,))
            self.assert_fault("stuck", ("integer", 1), ("number", 0), (head,))
        for instruction in (("rem", 3), ("assign", 0), ("not",), ("mark",), ("branch", 2)):
            self.assert_fault("stuck", ("number", 1), instruction)
        for instruction in (("zero",), ("push",), ("open", 4)):
            self.assert_fault("stuck", ("integer", 1), instruction)
        for head in ("load", "load_bar", "pop"):
            self.assert_fault("stuck", ("number", 1), (head, 1, True))
        for head in ("store", "store_bar"):
            self.assert_fault("stuck", (head, 0, False))
            self.assert_fault("stuck", ("integer", 1), (head, 1, True))
            self.assert_fault("stuck", ("number", 1), (head, 1, True))
            # The missing number is found ahead of an index that the array does not have.
            self.assert_fault("stuck", ("integer", 9), (head, 1, True))

    def test_an_operand_ahead_of_a_division_by_zero(self):
        self.assert_fault("stuck", ("number", 0), ("div",))

    def test_accesses_that_do_not_fit(self):
        for head in ("load", "load_bar", "store", "store_bar", "pop"):
            ready = (("number", 1), ("integer", 9))
            for variable, indexed in ((0, True), (2, True), (1, False), (3, False), (4, False), (4, True)):
                self.assert_fault("stuck", *ready, (head, variable, indexed))

    def test_indexes(self):
        for head in ("load", "load_bar", "store", "store_bar", "pop"):
            for index in (3, 1000, -1, -3):
                self.assert_fault("index", ("number", 1), *self.integers(index), (head, 1, True))
            self.assert_fault("index", ("number", 1), *self.integers(2), (head, 3, True))

    def test_a_great_index_from_the_tape(self):
        result = self.reverse(("unmark",), ("load", 1, True), tape=(LAST,))
        self.assertEqual(result[0], "index")
        result = self.reverse(("unmark",), ("integer", 0), ("plus",), tape=(1001,))
        self.assertEqual(result[0], "index")
        result = self.reverse(("unmark",), ("integer", 0), ("plus",), tape=(1000,))
        self.assertEqual(result[0], None)

    def test_an_empty_tape(self):
        self.assert_fault("tape", ("unmark",))
        self.assert_fault("tape", ("pop", 0, False))
        self.assert_fault("tape", ("integer", 1), ("pop", 1, True))
        self.assert_fault("tape", ("number", 1), ("push",), ("pop", 0, False), ("pop", 0, False))
        # An empty tape is found ahead of a parameter that would be changed, an index ahead of an empty tape.
        self.assert_fault("tape", ("pop", 2, False))
        self.assert_fault("index", ("integer", 2), ("pop", 3, True))
        self.assert_fault("stuck", ("pop", 1, False))

    def test_parameters_are_not_changed(self):
        self.assert_fault("stuck", ("number", 1), ("store", 2, False))
        self.assert_fault("stuck", ("number", 1), ("integer", 1), ("store", 3, True))
        self.assert_fault("index", ("number", 1), ("integer", 2), ("store", 3, True))
        self.assert_fault("stuck", ("number", 1), ("push",), ("pop", 2, False))
        self.assert_fault("stuck", ("number", 1), ("push",), ("integer", 0), ("pop", 3, True))
        result = self.reverse(("number", 7), ("store_bar", 2, False), ("number", 8), ("integer", 1), ("store_bar", 3, True))
        self.assertEqual(result, (None, self.STATE, (1, 2, 3, 4), (7, 0, 8), 0, 0))

    def test_parameters_that_are_handed_over(self):
        call = self.integers(0, 0) + (("tick",), ("call", 0, 2, (2, 1)))
        self.assert_state(call, self.STATE, 1, (15,), procedure=(("load", 0, False), ("push",), ("return",)))
        self.assert_fault("stuck", *call, ticks=1, procedure=(("number", 1), ("store", 0, False), ("return",)))
        self.assert_fault("stuck", *call, ticks=1, procedure=(("number", 1), ("push",), ("pop", 0, False), ("return",)))
        self.assert_fault("tape", *call, ticks=1, procedure=(("pop", 0, False), ("return",)))
        result = self.reverse(*call, procedure=(("number", 9), ("store_bar", 0, False), ("return",)))
        self.assertEqual(result, (None, self.STATE, (1, 2, 3, 4), (9, 0, 0), 0, 1))
        self.assert_fault("stuck", *self.integers(0, 0), ("tick",), ("call", 0, 2, (0, 1)), ticks=1,
                          procedure=(("number", 1), ("store", 2, False), ("return",)))

    def test_counts_until_the_fault(self):
        self.assert_fault("stuck", ("tick",), *self.numbers(1, 2), ("add",), ("tick",), ("add",), operations=1, ticks=2)
        self.assert_fault("fuel", *self.numbers(1, 2, 3), ("add",), ("add",), ("tick",), ("tick",), operations=2, ticks=1, fuel=1)


class TestWellFormed(HandCase):
    """Point 76."""

    def assert_refused(self, code, tree=HandCase.TREE):
        with self.subTest(code=code):
            with self.assertRaises(CodeError):
                check_code(code, tree)
            state, params = (0,) * cells(tree[0]), (0,) * cells(tree[1])
            with self.assertRaises(CodeError):
                run_forward(code, tree, params, state, beat=0)
            with self.assertRaises(CodeError):
                run_reverse(code, tree, params, state, (), state, beat=0)

    def assert_body(self, instructions, right):
        """The instructions are right, or not, in the two bodies of the beat."""
        for code in (self.code(instructions), self.code(reverse_body=instructions)):
            if right:
                self.assertIsNone(check_code(code, self.TREE))
            else:
                self.assert_refused(code)

    def assert_operands(self, head, right, wrong, before=()):
        """These operands of an instruction are right, and those are wrong."""
        for operands in right:
            self.assert_body(before + ((head,) + operands,) + END, True)
        for operands in wrong:
            self.assert_body(before + ((head,) + operands,) + END, False)

    def test_right_code(self):
        self.assertIsNone(check_code(self.code(), self.TREE))
        self.assertIsNone(check_code(((0, 1, END), (0, 1, END)), read_program("(state x) (beat)")))
        for seed in range(100):
            tree = random_program(seed)
            self.assertIsNone(check_code(translate(tree), tree))

    def test_values_that_are_no_code(self):
        for value in (None, 1, True, "code", (), [], {}, (1, 2, 3, 4), ("a", "b", "c", "d"), (None,) * 4, ((),) * 4, ([],) * 4):
            self.assert_refused(value)
        self.assert_refused(list(self.code()))
        for place in range(4):
            for body in (None, 7, "ab", [], (), (0,), (2, 7), [3, 7, END], (3, 7, END, END), (3, 7, list(END)), (3, 7, "return"),
                         (3, 7, None), (3, 7, ()), (None, 7, END), (3, None, END), ("3", 7, END), (3, "7", END), (True, 7, END),
                         (3, True, END), (-1, 7, END), (3, -1, END), (3, 7, ("return",)), (3, 7, (("return",), None)),
                         (3, 7, (None, ("return",))), (3, 7, ((), ("return",))), (3, 7, (7, ("return",))), (3, 7, (["tick"], ("return",))),
                         (3, 7, ((None,), ("return",))), (3, 7, (((),), ("return",))), (3, 7, (([],), ("return",))),
                         (3, 7, (({},), ("return",))), (3.0, 7, END)):
                code = list(self.code())
                code[place] = body
                self.assert_refused(tuple(code))

    def test_the_number_of_bodies(self):
        right = self.code()
        self.assert_refused(right[1:])
        self.assert_refused(right + right[3:])
        self.assert_refused(right[:2])
        self.assert_refused(right, read_program("(state x) (state v 3) (param k) (param w 2) (beat)"))
        self.assert_refused(right, read_program(
            "(state x) (state v 3) (param k) (param w 2) (procedure f (i j) ((p) (q 3))) (procedure g () ()) (beat)"
        ))

    def test_words(self):
        for instruction in (("fly",), ("Tick",), ("set", 1), ("tick ",), ("",)):
            self.assert_body((instruction,) + END, False)
        lengths = {
            "integer": (1,), "register": (1,), "beat": (), "plus": (), "minus": (), "times": (), "rem": (2,), "assign": (1,), "less": (),
            "equal": (), "zero": (), "not": (), "number": (1,), "load": (0, False), "load_bar": (0, False), "store": (0, False),
            "store_bar": (0, False), "add": (), "sub": (), "mul": (), "div": (), "push": (), "pop": (0, False), "mark": (),
            "unmark": (), "tick": (), "branch": (2,), "jump": (2,), "call": (0, 0, (0, 1)), "return": (), "open": (4,), "close": (4,),
        }
        for head, operands in lengths.items():
            self.assert_body((("tick",), (head,) + operands) + END, True)
            self.assert_body((("tick",), (head,) + operands + (0,)) + END, False)
            if operands:
                self.assert_body((("tick",), (head,) + operands[:-1]) + END, False)
                self.assert_body((("tick",), (head,) + operands[:-1] + (None,)) + END, False)
                self.assert_body((("tick",), (head,) + operands[:-1] + ("1",)) + END, False)
                self.assert_body((("tick",), (head,) + operands[:-1] + (-1,)) + END, False)
            if operands and operands[-1] is not False:
                self.assert_body((("tick",), (head,) + operands[:-1] + (True,)) + END, False)

    def test_numbers_and_integers(self):
        self.assert_operands("integer", [(0,), (1000,)], [(-1,), (1001,), (True,), ("1",), (None,), (1.0,)])
        self.assert_operands("number", [(0,), (LAST,)], [(-1,), (PRIME,), (False,), ("1",), ((1,),)])
        self.assert_operands("rem", [(1,), (1000,)], [(0,), (-1,), (1001,), (True,)])

    def test_registers_and_variables(self):
        for head in ("register", "assign"):
            self.assert_operands(head, [(0,), (2,)], [(3,), (-1,), (True,)])
        for head in ("load", "load_bar", "store", "store_bar", "pop"):
            right = [(v, indexed) for v in range(7) for indexed in (True, False)]
            wrong = [(7, False), (7, True), (-1, False), (True, False), (None, False), (0, 0), (0, 1), (1, None), (1, "True")]
            self.assert_operands(head, right, wrong)

    def test_local_scalars(self):
        for head in ("open", "close"):
            self.assert_operands(head, [(4,), (6,)], [(0,), (1,), (2,), (3,), (7,), (-1,), (True,)])
        code = list(self.code())
        for variable, right in ((3, False), (4, True), (5, True), (6, False)):
            code[0] = (2, 6, (("open", variable),) + END)
            if right:
                check_code(tuple(code), self.TREE)
            else:
                self.assert_refused(tuple(code))

    def test_one_integer_variables(self):
        for place in range(4):
            code = list(self.code())
            code[place] = (0, 4, END)
            self.assertIsNone(check_code(tuple(code), self.TREE))
            for variables in range(4):
                code[place] = (0, variables, END)
                self.assert_refused(tuple(code))

    def test_jumps(self):
        for head in ("jump", "branch"):
            before = (("integer", 0), ("tick",), ("integer", 0))
            # The instruction has the number 3, and the return behind it has the number 4.
            self.assert_operands(head, [(4,), (1,)], [(0,), (2,), (3,), (5,), (-1,), (1000,), (True,)], before)
            self.assert_body(((head, 2), ("integer", 0), ("mark",)) + END, True)
            self.assert_body(((head, 0),) + END, False)
        self.assert_body((("tick",), ("jump", 0)), True)
        self.assert_body((("number", 1), ("jump", 0)), False)

    def test_calls(self):
        before = (("tick",),)
        right = [(0, 0, (0, 1)), (1, 2, (0, 1)), (0, 1, (6, 6)), (1, 0, (2, 3))]
        wrong = [
            (2, 0, (0, 1)), (3, 0, (0, 1)), (4, 0, (0, 1)), (-1, 0, (0, 1)), (True, 0, (0, 1)), (0, 3, (0, 1)), (0, -1, (0, 1)),
            (0, True, (0, 1)), (0, 0, (0,)), (0, 0, ()), (0, 0, (0, 1, 2)), (0, 0, (0, 7)), (0, 0, (-1, 1)), (0, 0, [0, 1]),
            (0, 0, (0, True)), (0, 0, None), (0, None, (0, 1)), (None, 0, (0, 1)), (0, 0, "01"), (0, 0, (0, None)), (0, 0, (0, "1")),
        ]
        self.assert_operands("call", right, wrong, before)

    def test_the_registers_of_the_called_body(self):
        code = [(5, 6, END), (0, 6, END), (0, 7, (("tick",), ("call", 0, 5, (0, 1))) + END), (0, 7, END)]
        self.assertIsNone(check_code(tuple(code), self.TREE))
        code[2] = (0, 7, (("tick",), ("call", 0, 6, (0, 1))) + END)
        self.assert_refused(tuple(code))
        code[2] = (9, 7, (("tick",), ("call", 1, 1, (0, 1))) + END)
        self.assert_refused(tuple(code))

    def test_a_call_stands_directly_behind_a_tick(self):
        call = ("call", 0, 0, (0, 1))
        self.assert_body((("tick",), call) + END, True)
        self.assert_body((call,) + END, False)
        self.assert_body((("tick",), call, call) + END, False)
        self.assert_body((("tick",), ("integer", 0), call) + END, False)
        self.assert_body((call, ("tick",)) + END, False)
        self.assert_body((("jump", 2), ("tick",), call) + END, True)

    def test_a_program_without_procedures_has_no_calls(self):
        tree = read_program("(state x) (beat)")
        for number in (-2, -1, 0, 1):
            self.assert_refused(((0, 1, (("tick",), ("call", number, 0, ()), ("return",))), (0, 1, END)), tree)

    def test_the_last_instruction(self):
        for last in (("tick",), ("integer", 1), ("branch", 0), ("call", 0, 0, (0, 1)), ("push",)):
            self.assert_body((("tick",), last), False)
            self.assert_body((("tick",), last) + END, True)
        self.assert_body(END, True)
        self.assert_body((("tick",), ("jump", 0)), True)
        self.assert_body((), False)

    def test_trees_are_checked_first(self):
        for tree, path, reason in (
            (None, (), "shape"), (((), (), (), ()), (), "limits"), (read_program("(state x) (beat (set y 1))"), (0, 0), "scope"),
        ):
            for call in (
                lambda: check_code(None, tree), lambda: run_forward(None, tree, None, None, beat=None),
                lambda: run_reverse(None, tree, None, None, None, None, beat=None), lambda: translate(tree),
            ):
                with self.assertRaises(TreeError) as caught:
                    call()
                self.assertEqual((caught.exception.path, caught.exception.reason), (path, reason))

    def test_every_run_of_well_formed_code_ends(self):
        numbers = random.Random(5)
        faults = []
        while len(faults) < 1500:
            code = tuple(self.random_body(numbers, registers, variables) for registers, variables in ((2, 6), (2, 6), (3, 7), (3, 7)))
            try:
                check_code(code, self.TREE)
            except CodeError:
                continue
            tape = random_row(len(faults), len(faults) % 9)
            faults.append(run_forward(code, self.TREE, self.PARAMS, self.STATE, beat=3)[0])
            faults.append(run_reverse(code, self.TREE, self.PARAMS, self.STATE, tape, (1, 2, 3, 4), beat=3)[0])
        self.assertLessEqual(set(faults), {None, "zero", "index", "calls", "fuel", "tape", "stuck"})
        for fault in (None, "index", "fuel", "tape", "stuck"):
            self.assertGreater(faults.count(fault), 2, fault)

    def random_body(self, numbers, registers, variables):
        size = numbers.randint(8, 30)
        instructions = []
        while len(instructions) < size:
            head = numbers.choice((
                "integer", "integer", "register", "assign", "number", "number", "load", "store", "store_bar", "load_bar", "add", "div", "div", "pop",
                "push", "mark", "unmark", "tick", "jump", "branch", "call", "open", "close", "plus", "times", "less", "zero", "rem",
            ))
            variable, indexed = numbers.randrange(variables), numbers.random() < 0.5
            if variable < 4 and numbers.random() < 0.9:
                indexed = variable in (1, 3)
            operands = {
                "integer": (numbers.choice((0, 0, 1, 2, 999)),), "register": (numbers.randrange(registers),),
                "assign": (numbers.randrange(registers),), "number": (numbers.choice((0, 1, 5)),), "rem": (3,),
                "jump": (numbers.randrange(size + 1),), "branch": (numbers.randrange(size + 1),), "open": (numbers.randrange(4, variables),),
                "close": (numbers.randrange(4, variables),), "call": (numbers.randrange(2), numbers.randrange(3), (0, 1)),
            }.get(head, ())
            if head in ("load", "load_bar", "store", "store_bar", "pop"):
                operands = variable, indexed
                if indexed:
                    instructions.append(("integer", numbers.choice((0, 1, 2, 2, 3))))
                if head.startswith("store"):
                    instructions.append(("number", 3))
            if head == "call":
                instructions.append(("tick",))
            instructions.append((head,) + operands)
        ticks = [at for at, instruction in enumerate(instructions) if instruction == ("tick",)]
        for at, instruction in enumerate(instructions):
            if instruction[0] in ("jump", "branch") and instruction[1] <= at:
                target = numbers.choice(ticks) if ticks else len(instructions)
                instructions[at] = (instruction[0], target)
        return registers, variables, tuple(instructions) + END


class TestTranslate(unittest.TestCase):
    """Points 72, 73, 77 and 78."""

    def assert_same(self, tree, params, state, beat, fuel, tapes=()):
        """The code does what the sweeps do."""
        code = translate(tree)
        self.assertIsNone(check_code(code, tree))
        found = run_forward(code, tree, params, state, beat=beat, fuel=fuel)
        self.assertEqual(found, forward(tree, params, state, beat=beat, fuel=fuel))
        faults = [found[0]]
        bars = random_row(beat + 3, len(state))
        right = (found[1], found[2]) if found[0] is None else (state, ())
        cases = [right, (right[0], right[1][1:]), (right[0], right[1] + (0,)), (state, right[1])] + [(state, tape) for tape in tapes]
        for values, tape in cases:
            found = run_reverse(code, tree, params, values, tape, bars, beat=beat, fuel=fuel)
            self.assertEqual(found, reverse(tree, params, values, tape, bars, beat=beat, fuel=fuel))
            faults.append(found[0])
        return faults

    def test_example(self):
        tree = read_program("(state x) (beat (set x (mul x x)))")
        body = (
            ("load", 0, False), ("push",), ("load", 0, False), ("load", 0, False), ("mul",), ("tick",), ("store", 0, False), ("return",),
        )
        code = ((0, 1, body), translate(tree)[1])
        self.assertIsNone(check_code(code, tree))
        for fuel in (0, 1, 300):
            self.assertEqual(
                run_forward(code, tree, (), (3,), beat=0, fuel=fuel), forward(tree, (), (3,), beat=0, fuel=fuel)
            )
        self.assertEqual(run_forward(code, tree, (), (3,), beat=0), (None, (9,), (3,), 1, 1))
        self.assertEqual(run_reverse(code, tree, (), (9,), (3,), (1,), beat=0), (None, (3,), (6,), (), 4, 0))

    def test_example_of_the_sweeps(self):
        tree = read_program("(state x) (param k) (beat (set x (add (mul x x) k)))")
        code = translate(tree)
        self.assertEqual(run_forward(code, tree, (1,), (3,), beat=0), (None, (10,), (3, 9), 2, 1))
        self.assertEqual(run_reverse(code, tree, (1,), (10,), (3, 9), (1,), beat=0), (None, (3,), (6,), (1,), 6, 0))

    def test_the_number_of_bodies(self):
        for procedures in range(9):
            text = "(state x)" + "".join(f"(procedure f{k} () ((p)) (set p {k}))" for k in range(procedures)) + "(beat (set x 99))"
            tree = read_program(text)
            code = translate(tree)
            self.assertIs(type(code), tuple)
            self.assertEqual(len(code), 2 * procedures + 2)
            for registers, variables, instructions in code:
                self.assertEqual([type(part) for part in (registers, variables, instructions)], [int, int, tuple])
            # The forward body of each has the number that the statement sets.
            for number, constant in enumerate(list(range(procedures)) + [99]):
                self.assertIn(("number", constant), code[2 * number][2])
                self.assertNotIn(("number", constant), code[2 * number + 1][2][:-1] if constant else ())

    def test_the_order_of_the_bodies(self):
        """Each body of the translated code is run by itself, by a call that is written by hand."""
        tree = read_program(
            "(state x) (state y) (procedure f () ((p)) (set p (add p 1))) (procedure g () ((p)) (set p (add p 2))) (beat (set x 9))"
        )
        code = translate(tree)
        for number, forward_last, reverse_last in ((0, 4, None), (2, 5, None), (1, None, 7), (3, None, 7)):
            call = (0, 2, (("tick",), ("call", number, 0, (0,)), ("return",)))
            changed = code[:4] + (call, call)
            if forward_last is not None:
                result = run_forward(changed, tree, (), (3, 6), beat=0)
                self.assertEqual(result, (None, (forward_last, 6), (3,), 1, 2))
            else:
                result = run_reverse(changed, tree, (), (3, 6), (reverse_last,), (1, 1), beat=0)
                self.assertEqual(result[:3], (None, (reverse_last, 6), (1, 1)))

    def test_the_numbers_of_the_variables(self):
        """The first variables are those of the document, as a program with distinct values shows."""
        tree = read_program(
            "(state x) (state v 2) (param k) (param w 2) (procedure f () ((p 2) (q)) (set q (add k (at w 1)))) (beat (set x k))"
        )
        code = translate(tree)
        self.assertIn(("load", 2, False), code[2][2])
        self.assertIn(("store", 0, False), code[2][2])
        self.assertIn(("load", 2, False), code[0][2])
        self.assertIn(("load", 3, True), code[0][2])
        self.assertIn(("store", 1, False), code[0][2])

    def test_random_programs(self):
        faults = []
        for seed in range(500):
            with self.subTest(seed=seed):
                tapes = [random_row(seed + 7, seed % 23), random_row(seed + 8, seed % 5)]
                faults += self.assert_same(*random_case(seed), tapes=tapes)
        for fault in (None, "zero", "index", "calls", "fuel", "tape"):
            self.assertGreater(faults.count(fault), 2, fault)

    def test_every_fuel(self):
        for text, state, params in (
            (EVERY_SORT, (3, 4, 5, 1, 2, 3, 4), (6, 7, 8)),
            ("(state x) (beat (set x (add (mul x x) 1)) (set x (div x 0)))", (1,), ()),
            ("(state v 2) (beat (loop i 3 (set (at v i) (div 1 (at v i)))))", (1, 2), ()),
            ("(state v 2) (beat (loop i 3 (set (at v i) (mul 2 (at v i)))))", (1, 2), ()),
        ):
            tree = read_program(text)
            ticks = run_beat(tree, params, state, beat=1)[2]
            for fuel in list(range(-2, ticks + 3)) + [-10 ** 30, MAX_FUEL, MAX_FUEL + 1, 10 ** 30]:
                self.assert_same(tree, params, state, 1, fuel)

    def test_programs_of_every_sort(self):
        head = "(state x) (state v 3) (param k) (param w 2) (procedure f (i) ((p) (q 3)) (set (at q i) (mul p (at w 1))))"
        head += "(procedure g (n) ((p)) (set p (mul p p)) (if (less 0 n) ((call g ((minus n 1)) (p))) ()))"
        for statement in (
            "", "(set x 7)", "(set x k)", "(set (at v beat) (at w 0))", "(set x (div 1 x))", "(set (at v 1) (div x (at v 2)))",
            "(set x (div x 2))", "(set x (div 2 3))", "(set x (sub (mul x x) (div k x)))", "(let z x (set z (mul z z)) (set x z))",
            "(let z (div x k) (let u (mul z z) (set x u)))", "(loop i 3 (set (at v i) x))", "(loop i (minus 0 1) (set x 1))",
            "(loop i 3 (loop j i (set (at v j) (add (at v i) 1))))", "(loop i 3 (let z (at v i) (set x (add x z))))",
            "(loop i 4 (set (at v i) 1))", "(loop i (plus 1000 1))", "(loop i 2) (loop i 2 (set x (at v i)))",
            "(if (zero x) ((set x 1)) ((set x 2)))", "(if (not (zero (sub x 3))) ((set x 1)) ((set x 2)))", "(if (zero 0) () ())",
            "(if (less 1 beat) ((set x 1)) ())", "(if (equal beat (rem 7 3)) () ((set x 1)))", "(call f (2) (x v))", "(call f (3) (x v))",
            "(let z 5 (call f (beat) (z v)))", "(call g (5) (x))", "(call g (6) (x))", "(loop i 3 (call f (i) (x v)) (call g (i) (x)))",
            "(set (at v 9) (add 1 1))", "(set (at v 9) (div 1 0))", "(set x (add (at v 9) (div 1 0)))", "(set (at v (plus 1000 1)) 1)",
            "(let z (at v 9))", "(if (zero (at v 9)) () ())", "(call f ((times 1000 2)) (x v))", "(loop i 1000 (set x (add x 1)))",
        ):
            tree = read_program(f"{head} (beat {statement} (set x (add x (at v 0))))")
            for state in ((3, 4, 5, 6), (0, 0, 1, 0)):
                for fuel in (MAX_FUEL, 4, 1, 0):
                    for beat in (0, 2):
                        with self.subTest(statement=statement, state=state, fuel=fuel, beat=beat):
                            self.assert_same(tree, (7, 8, 9), state, beat, fuel, ((1,), (0, 1, 0, 1, 0, 1)))

    def test_code_that_is_nested_as_deep_as_can_be(self):
        seven = "(add (mul (sub x 0) (sub x 0)) (mul (sub x 0) (sub x 0)))"
        nested = f"(if (zero {seven}) ((if (zero {seven}) ((if (zero {seven}) ((call f () (x))) ())) ())) ())"
        tree = read_program(f"(state x) (procedure f () ((x)) {nested}) (beat {nested})")
        self.assertEqual(self.assert_same(tree, (), (0,), 0, MAX_FUEL)[0], "calls")

    def test_results_are_tuples(self):
        tree = read_program("(state x) (param k) (beat (set x (mul x k)))")
        code = translate(tree)
        result = run_forward(code, tree, [5], [3], beat=0)
        self.assertEqual([type(part) for part in result], [type(None), tuple, tuple, int, int])
        result = run_reverse(code, tree, [5], [15], [3], [1], beat=0)
        self.assertEqual([type(part) for part in result], [type(None), tuple, tuple, tuple, int, int])


class TestArguments(unittest.TestCase):
    """Point 78: what the functions refuse behind check_code."""

    TREE = read_program("(state x) (state v 2) (param k 2) (beat (set x (add x (at k 0))))")
    CODE = translate(TREE)
    GOOD = {"params": (1, 2), "state": (3, 4, 5), "tape": (6,), "bars": (7, 8, 9), "beat": 1}

    def forward(self, code=CODE, **changed):
        given = {**self.GOOD, **changed}
        return run_forward(code, self.TREE, given["params"], given["state"], beat=given["beat"])

    def reverse(self, code=CODE, **changed):
        given = {**self.GOOD, **changed}
        return run_reverse(code, self.TREE, given["params"], given["state"], given["tape"], given["bars"], beat=given["beat"])

    def assert_refused(self, call, reason, **changed):
        with self.subTest(call=call.__name__, **changed):
            with self.assertRaises(ArgumentError) as caught:
                call(**changed)
            self.assertEqual(caught.exception.reason, reason)

    def test_good_arguments(self):
        self.assertEqual(self.forward(), (None, (4, 4, 5), (3,), 1, 1))
        self.assertEqual(self.reverse(), (None, (6, 4, 5), (7, 8, 9), (7, 0), 2, 0))
        changed = {"params": [1 + PRIME, 2], "state": [3, 4 - PRIME, 5], "tape": [6 - 7 * PRIME], "bars": [7, 8, 9 + PRIME]}
        self.assertEqual(self.forward(**changed), self.forward())
        self.assertEqual(self.reverse(**changed), self.reverse())

    def test_rows_and_beats(self):
        for row in (None, 1, "abc", (1, True, 3), (1, 2, None), [True], ("1",), {1: 2}, (1, 2, 3.0)):
            for call, names in ((self.forward, ("params", "state")), (self.reverse, ("params", "state", "tape", "bars"))):
                for name in names:
                    self.assert_refused(call, name, **{name: row})
        for row in ((), (1,), [1, 2, 3, 4]):
            for call, names in ((self.forward, ("params", "state")), (self.reverse, ("params", "state", "bars"))):
                for name in names:
                    self.assert_refused(call, name, **{name: row})
        for beat in (-1, MAX_BEATS, True, False, None, "1"):
            self.assert_refused(self.forward, "beats", beat=beat)
            self.assert_refused(self.reverse, "beats", beat=beat)
        for beat in (0, MAX_BEATS - 1):
            self.assertIsNone(self.forward(beat=beat)[0])
        for tape in ((), (1, 2), [1] * 500):
            self.assertEqual(self.reverse(tape=tape)[0], "tape")

    def test_order(self):
        wrong = {"params": None, "state": (True,) * 3, "tape": 5, "bars": (), "beat": MAX_BEATS}
        for call in (self.forward, self.reverse):
            with self.assertRaises(CodeError):
                call(code=(), **wrong)
        for reason in ("params", "state", "tape", "bars", "beat"):
            if reason not in ("tape", "bars"):
                self.assert_refused(self.forward, "beats" if reason == "beat" else reason, **wrong)
            self.assert_refused(self.reverse, "beats" if reason == "beat" else reason, **wrong)
            del wrong[reason]

    def test_arguments_are_not_changed(self):
        """Point 5."""
        params, state, tape, bars = rows = [1, -2], [3, 4, 5 + PRIME], [6], [7, 8, -9]
        before = copy.deepcopy(rows)
        for _ in range(2):
            self.assertEqual(run_forward(self.CODE, self.TREE, params, state, beat=0)[0], None)
            self.assertEqual(run_reverse(self.CODE, self.TREE, params, state, tape, bars, beat=0)[1], (6, 4, 5))
            self.assertEqual(rows, before)


if __name__ == "__main__":
    unittest.main()
