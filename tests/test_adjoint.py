"""Points 54 to 63: adjoint programs."""

import copy
import unittest

from countermarch.adjoint import contributions, make_adjoint, transform
from countermarch.errors import TreeError
from countermarch.simple import simplify
from countermarch.words import read_program
from programs import random_program
from tape_text import read_tape_body

HEAD = "(state x) (state y) (state v 4) (param k) (param w 3)"
TRUE = "(equal 0 0)"
FALSE = "(not (equal 0 0))"


def place(name, index=None):
    return "place", name, index


def bar(name, index=None):
    return "bar", name, index


def plus(target, change):
    """The statement target plus= change."""
    return "set", target, ("add", target, change)


def minus(target, change):
    return "set", target, ("sub", target, change)


class AdjointCase(unittest.TestCase):
    def assert_beat(self, text, forward, reverse, head=HEAD):
        """The simple beat has these sweeps."""
        with self.subTest(text=text):
            tape = transform(read_program(f"{head} (beat {text})"))
            self.assertEqual(tape[3], read_tape_body(forward))
            self.assertEqual(tape[4], read_tape_body(reverse))


class TestForm(AdjointCase):
    """Point 54."""

    TEXT = (
        "(state x) (state v 2) (param k) (procedure f (i j) ((p)) (set p 1)) (procedure g () ((p 3) (q)) (set q 2))"
        "(beat (set x 3))"
    )

    def test_tape_program(self):
        tape = transform(read_program(self.TEXT))
        self.assertIs(type(tape), tuple)
        state, params, procedures, forward, reverse = tape
        self.assertEqual((state, params), ((("x", 0), ("v", 2)), (("k", 0),)))
        self.assertEqual(procedures, (
            (("forward", "f"), ("i", "j"), (("p", 0),), read_tape_body("(push p) (set p 1)")),
            (("reverse", "f"), ("i", "j"), (("p", 0),), read_tape_body("(let t0 (bar p) (set (bar p) 0) (pop p))")),
            (("forward", "g"), (), (("p", 3), ("q", 0)), read_tape_body("(push q) (set q 2)")),
            (("reverse", "g"), (), (("p", 3), ("q", 0)), read_tape_body("(let t1 (bar q) (set (bar q) 0) (pop q))")),
        ))
        self.assertEqual(forward, read_tape_body("(push x) (set x 3)"))
        self.assertEqual(reverse, read_tape_body("(let t2 (bar x) (set (bar x) 0) (pop x))"))

    def test_literal_forms(self):
        tape = transform(((("x", 0), ("v", 2)), (), (), (("set", ("v", ("beat",)), place("x")), ("loop", "i", ("integer", 2), ()))))
        self.assertEqual(tape, (
            (("x", 0), ("v", 2)), (), (),
            (("push", ("place", "v", ("beat",))), ("set", ("v", ("beat",)), ("place", "x", None)), ("loop", "i", ("integer", 2), ())),
            (
                ("down", "i", ("integer", 2), ()),
                ("let", "t0", ("bar", "v", ("beat",)), (
                    ("set", ("bar", "v", ("beat",)), ("number", 0)),
                    ("pop", ("v", ("beat",))),
                    ("set", ("bar", "x", None), ("add", ("bar", "x", None), ("place", "t0", None))),
                )),
            ),
        ))

    def test_adjoint(self):
        for text in (self.TEXT, "(state x) (beat)", "(state x) (beat (set x (add (mul x x) 1)) (if (zero 0) () ()))"):
            tree = read_program(text)
            adjoint = make_adjoint(tree)
            self.assertIs(type(adjoint), tuple)
            self.assertEqual(adjoint, (tree, simplify(tree), transform(simplify(tree))))

    def test_adjoints_of_random_programs(self):
        for seed in range(100):
            tree = random_program(seed)
            before = copy.deepcopy(tree)
            adjoint = make_adjoint(tree)
            self.assertEqual(adjoint, (tree, simplify(tree), transform(simplify(tree))))
            self.assertEqual(tree, before)
            procedures = adjoint[2][2]
            names = [(direction, each[0]) for each in tree[2] for direction in ("forward", "reverse")]
            self.assertEqual([each[0] for each in procedures], names)
            self.assertEqual([each[1:3] for each in procedures], [each[1:3] for each in tree[2] for _ in range(2)])

    def test_a_tree_that_is_not_simple(self):
        for body in (
            "(beat (set x (add 1 (add 1 1))))", "(beat (let t (add (add 1 1) 1)))", "(beat (if (zero 0) () ()))",
            "(beat (if (not (zero (add x 1))) () ()))", "(procedure f () () (let t (mul (add 1 1) 2))) (beat)",
            "(beat (set x 1) (loop i 2 (if (less 1 2) () ((set x (sub (sub x 1) 1))))))",
        ):
            with self.subTest(body=body):
                tree = read_program(f"(state x) {body}")
                with self.assertRaises(TreeError) as caught:
                    transform(tree)
                self.assertEqual((caught.exception.path, caught.exception.reason), ((), "simple"))
                make_adjoint(tree)

    def test_transform_checks_nothing_else(self):
        for tree in (
            ((), (), (), ()),
            ((("x", 0),), (), (), (("set", ("z", None), ("number", 1)),)),
            ((("x", 0), ("x", 0)), (("x", 2),), (), ()),
            ((("x", 0),), (), (), (("call", "f", (), ("x",)),) * 400),
        ):
            state, params, procedures, forward, reverse = transform(tree)
            self.assertEqual((state, params, procedures), (tree[0], tree[1], ()))
            self.assertEqual(len(reverse), len(tree[3]))

    def test_make_adjoint_checks_as_check_does(self):
        for tree, path, reason in (
            (None, (), "shape"), ((1, 2, 3, 4), (), "shape"), (((), (), (), ()), (), "limits"),
            ((("x", 0),) * 2, (), "shape"), (((("x", 0), ("x", 0)), (), (), ()), (), "names"),
            (((("x", 0),), (), (), (("set", ("z", None), ("number", 1)),)), (0, 0), "scope"),
            (((("x", 2),), (), (), (("set", ("x", None), ("number", 1)),)), (0, 0), "size"),
            (((("x", 0),), (("k", 0),), (), (("set", ("k", None), ("add", place("x"), place("x"))),)), (0, 0), "assigned"),
            (((("x", 0),), (), (), (("call", "f", (), ("x",)),)), (0, 0), "call"),
        ):
            with self.subTest(tree=tree):
                with self.assertRaises(TreeError) as caught:
                    make_adjoint(tree)
                self.assertEqual((caught.exception.path, caught.exception.reason), (path, reason))


class TestSet(AdjointCase):
    """Points 55, 56 and 58."""

    def test_numbers_and_places(self):
        self.assert_beat("(set x 5)", "(push x) (set x 5)", "(let t0 (bar x) (set (bar x) 0) (pop x))")
        self.assert_beat(
            "(set x y)", "(push x) (set x y)", "(let t0 (bar x) (set (bar x) 0) (pop x) (set (bar y) (add (bar y) t0)))"
        )
        self.assert_beat(
            "(set x (at w 2))", "(push x) (set x (at w 2))",
            "(let t0 (bar x) (set (bar x) 0) (pop x) (set (bar w 2) (add (bar w 2) t0)))",
        )
        self.assert_beat(
            "(set x x)", "(push x) (set x x)", "(let t0 (bar x) (set (bar x) 0) (pop x) (set (bar x) (add (bar x) t0)))"
        )

    def test_elements_of_arrays(self):
        self.assert_beat(
            "(set (at v (plus beat 1)) k)", "(push (at v (plus beat 1))) (set (at v (plus beat 1)) k)",
            "(let t0 (bar v (plus beat 1)) (set (bar v (plus beat 1)) 0) (pop (at v (plus beat 1))) (set (bar k) (add (bar k) t0)))",
        )
        self.assert_beat(
            "(set (at v 0) (mul (at v (rem beat 2)) (at w 1)))",
            "(push (at v 0)) (set (at v 0) (mul (at v (rem beat 2)) (at w 1)))",
            "(let t0 (bar v 0) (set (bar v 0) 0) (pop (at v 0))"
            " (set (bar v (rem beat 2)) (add (bar v (rem beat 2)) (mul t0 (at w 1))))"
            " (set (bar w 1) (add (bar w 1) (mul t0 (at v (rem beat 2))))))",
        )

    def test_operations(self):
        self.assert_beat(
            "(set x (add y k))", "(push x) (set x (add y k))",
            "(let t0 (bar x) (set (bar x) 0) (pop x) (set (bar y) (add (bar y) t0)) (set (bar k) (add (bar k) t0)))",
        )
        self.assert_beat(
            "(set x (sub y k))", "(push x) (set x (sub y k))",
            "(let t0 (bar x) (set (bar x) 0) (pop x) (set (bar y) (add (bar y) t0)) (set (bar k) (sub (bar k) t0)))",
        )
        self.assert_beat(
            "(set x (mul x k))", "(push x) (set x (mul x k))",
            "(let t0 (bar x) (set (bar x) 0) (pop x)"
            " (set (bar x) (add (bar x) (mul t0 k))) (set (bar k) (add (bar k) (mul t0 x))))",
        )

    def test_quotients(self):
        self.assert_beat(
            "(set x (div y k))", "(let t0 (div y k) (push x) (set x t0))",
            "(let t0 (bar x) (let t1 x (set (bar x) 0) (pop x)"
            " (let t2 (div t0 k) (set (bar y) (add (bar y) t2)) (set (bar k) (sub (bar k) (mul t2 t1))))))",
        )
        self.assert_beat(
            "(set (at v beat) (div 1 (at v 2)))", "(let t0 (div 1 (at v 2)) (push (at v beat)) (set (at v beat) t0))",
            "(let t0 (bar v beat) (let t1 (at v beat) (set (bar v beat) 0) (pop (at v beat))"
            " (let t2 (div t0 (at v 2)) (set (bar v 2) (sub (bar v 2) (mul t2 t1))))))",
        )
        self.assert_beat(
            "(set x (div y 3))", "(let t0 (div y 3) (push x) (set x t0))",
            "(let t0 (bar x) (let t1 x (set (bar x) 0) (pop x) (set (bar y) (add (bar y) (div t0 3)))))",
        )
        self.assert_beat(
            "(set x (div 2 3))", "(let t0 (div 2 3) (push x) (set x t0))", "(let t0 (bar x) (let t1 x (set (bar x) 0) (pop x)))"
        )

    def test_names_that_are_words_of_tape_programs(self):
        self.assert_beat(
            "(set bar place) (set push (div bar number))",
            "(push bar) (set bar place) (let t0 (div bar number) (push push) (set push t0))",
            "(let t0 (bar push) (let t1 push (set (bar push) 0) (pop push)"
            " (let t2 (div t0 number) (set (bar bar) (add (bar bar) t2)) (set (bar number) (sub (bar number) (mul t2 t1))))))"
            "(let t3 (bar bar) (set (bar bar) 0) (pop bar) (set (bar place) (add (bar place) t3)))",
            "(state bar) (state push) (param place) (param number)",
        )


class TestOtherStatements(AdjointCase):
    """Points 56 and 59 to 62."""

    ONE = "(push x) (set x 1)"

    def reverse_of_one(self, name):
        return f"(let {name} (bar x) (set (bar x) 0) (pop x))"

    def test_bodies(self):
        self.assert_beat("", "", "")
        self.assert_beat(
            "(set x 1) (set y 2)", "(push x) (set x 1) (push y) (set y 2)",
            "(let t0 (bar y) (set (bar y) 0) (pop y)) (let t1 (bar x) (set (bar x) 0) (pop x))",
        )

    def test_let(self):
        self.assert_beat("(let z 5)", "(let z 5 (push z))", "(let z 0 (pop z))")
        self.assert_beat("(let z x)", "(let z x (push z))", "(let z 0 (pop z) (set (bar x) (add (bar x) (bar z))))")
        self.assert_beat(
            "(let z (add x (at v 1)) (set x 1))", f"(let z (add x (at v 1)) {self.ONE} (push z))",
            f"(let z 0 (pop z) {self.reverse_of_one('t0')}"
            " (set (bar x) (add (bar x) (bar z))) (set (bar v 1) (add (bar v 1) (bar z))))",
        )
        self.assert_beat(
            "(let z (sub 3 x) (set x 1) (set x 1))", f"(let z (sub 3 x) {self.ONE} {self.ONE} (push z))",
            f"(let z 0 (pop z) {self.reverse_of_one('t0')} {self.reverse_of_one('t1')} (set (bar x) (sub (bar x) (bar z))))",
        )
        self.assert_beat(
            "(let z (mul x y))", "(let z (mul x y) (push z))",
            "(let z 0 (pop z) (set (bar x) (add (bar x) (mul (bar z) y))) (set (bar y) (add (bar y) (mul (bar z) x))))",
        )

    def test_let_of_a_quotient(self):
        self.assert_beat(
            "(let z (div x y) (set x 1))", f"(let z (div x y) {self.ONE} (push z))",
            f"(let z 0 (pop z) {self.reverse_of_one('t0')}"
            " (let t1 (div (bar z) y) (set (bar x) (add (bar x) t1)) (set (bar y) (sub (bar y) (mul t1 z)))))",
        )
        self.assert_beat(
            "(let z (div x 2) (set x 1))", f"(let z (div x 2) {self.ONE} (push z))",
            f"(let z 0 (pop z) {self.reverse_of_one('t0')} (set (bar x) (add (bar x) (div (bar z) 2))))",
        )
        self.assert_beat(
            "(let z (div 2 x))", "(let z (div 2 x) (push z))",
            "(let z 0 (pop z) (let t0 (div (bar z) x) (set (bar x) (sub (bar x) (mul t0 z)))))",
        )

    def test_loop(self):
        self.assert_beat(
            "(loop i (plus beat 2) (set x 1) (set (at v i) y))",
            f"(loop i (plus beat 2) {self.ONE} (push (at v i)) (set (at v i) y))",
            "(down i (plus beat 2) (let t0 (bar v i) (set (bar v i) 0) (pop (at v i)) (set (bar y) (add (bar y) t0)))"
            f" {self.reverse_of_one('t1')})",
        )
        self.assert_beat("(loop i 3)", "(loop i 3)", "(down i 3)")

    def test_if(self):
        for test in ("(zero x)", "(not (zero (at v 1)))", "(less beat 2)", "(not (not (equal (plus 1 2) beat)))"):
            self.assert_beat(
                f"(if {test} ((set x 1)) ((set x 1) (set x 1)))",
                f"(if {test} ({self.ONE} (mark {TRUE})) ({self.ONE} {self.ONE} (mark {FALSE})))",
                f"(ifmark ({self.reverse_of_one('t0')}) ({self.reverse_of_one('t1')} {self.reverse_of_one('t2')}))",
            )
            self.assert_beat(f"(if {test} () ())", f"(if {test} ((mark {TRUE})) ((mark {FALSE})))", "(ifmark () ())")

    def test_call(self):
        self.assert_beat(
            "(call f (beat (plus 1 2)) (y x v)) (call g () ())",
            "(call (forward f) (beat (plus 1 2)) (y x v)) (call (forward g) () ())",
            "(call (reverse g) () ()) (call (reverse f) (beat (plus 1 2)) (y x v))",
            HEAD + "(procedure f (i j) ((a) (b) (c 4))) (procedure g () ())",
        )

    def test_statements_within_one_another(self):
        self.assert_beat(
            "(loop i 2 (if (less i 1) ((let z x (set x 1))) ((call f () ()))))",
            f"(loop i 2 (if (less i 1) ((let z x {self.ONE} (push z)) (mark {TRUE})) ((call (forward f) () ()) (mark {FALSE}))))",
            f"(down i 2 (ifmark ((let z 0 (pop z) {self.reverse_of_one('t0')} (set (bar x) (add (bar x) (bar z)))))"
            " ((call (reverse f) () ()))))",
            HEAD + "(procedure f () ())",
        )


class TestContributions(unittest.TestCase):
    """Point 57."""

    A, B = place("a"), place("b", ("plus", ("beat",), ("integer", 1)))
    A_BAR, B_BAR = bar("a"), bar("b", ("plus", ("beat",), ("integer", 1)))
    NUMBER = ("number", 7)
    PAIRS = (
        (place("v"), place("w")), (bar("z"), place("z")), (bar("z"), bar("y")), (place("v", ("integer", 3)), bar("w", ("beat",))),
    )

    def assert_contributions(self, expression, expected):
        """Expected is a function of v, w and the quotient that returns the statements."""
        for v, w in self.PAIRS:
            for q in ("q", "t0", "t17"):
                with self.subTest(expression=expression, v=v, w=w, q=q):
                    found = contributions(expression, v, w, q)
                    self.assertIs(type(found), tuple)
                    self.assertEqual(found, tuple(expected(v, w, q)))

    def test_numbers_and_places(self):
        self.assert_contributions(self.NUMBER, lambda v, w, q: [])
        self.assert_contributions(self.A, lambda v, w, q: [plus(self.A_BAR, v)])
        self.assert_contributions(self.B, lambda v, w, q: [plus(self.B_BAR, v)])

    def test_sums_and_differences(self):
        a, b, number = self.A, self.B, self.NUMBER
        for op, change in (("add", plus), ("sub", minus)):
            self.assert_contributions((op, a, b), lambda v, w, q: [plus(self.A_BAR, v), change(self.B_BAR, v)])
            self.assert_contributions((op, b, a), lambda v, w, q: [plus(self.B_BAR, v), change(self.A_BAR, v)])
            self.assert_contributions((op, a, a), lambda v, w, q: [plus(self.A_BAR, v), change(self.A_BAR, v)])
            self.assert_contributions((op, a, number), lambda v, w, q: [plus(self.A_BAR, v)])
            self.assert_contributions((op, number, b), lambda v, w, q: [change(self.B_BAR, v)])
            self.assert_contributions((op, number, number), lambda v, w, q: [])

    def test_products(self):
        a, b, number = self.A, self.B, self.NUMBER
        self.assert_contributions(
            ("mul", a, b), lambda v, w, q: [plus(self.A_BAR, ("mul", v, b)), plus(self.B_BAR, ("mul", v, a))]
        )
        self.assert_contributions(
            ("mul", a, a), lambda v, w, q: [plus(self.A_BAR, ("mul", v, a)), plus(self.A_BAR, ("mul", v, a))]
        )
        self.assert_contributions(("mul", a, number), lambda v, w, q: [plus(self.A_BAR, ("mul", v, number))])
        self.assert_contributions(("mul", number, b), lambda v, w, q: [plus(self.B_BAR, ("mul", v, number))])
        self.assert_contributions(("mul", number, number), lambda v, w, q: [])

    def test_quotients(self):
        a, b, number = self.A, self.B, self.NUMBER

        def let(divisor, *body):
            return lambda v, w, q: [("let", q, ("div", v, divisor), tuple(each(w, place(q)) for each in body))]

        self.assert_contributions(
            ("div", a, b), let(b, lambda w, q: plus(self.A_BAR, q), lambda w, q: minus(self.B_BAR, ("mul", q, w)))
        )
        self.assert_contributions(
            ("div", b, a), let(a, lambda w, q: plus(self.B_BAR, q), lambda w, q: minus(self.A_BAR, ("mul", q, w)))
        )
        self.assert_contributions(
            ("div", a, a), let(a, lambda w, q: plus(self.A_BAR, q), lambda w, q: minus(self.A_BAR, ("mul", q, w)))
        )
        self.assert_contributions(("div", number, b), let(b, lambda w, q: minus(self.B_BAR, ("mul", q, w))))
        self.assert_contributions(("div", a, number), lambda v, w, q: [plus(self.A_BAR, ("div", v, number))])
        self.assert_contributions(("div", number, number), lambda v, w, q: [])


class TestNames(AdjointCase):
    """Point 63."""

    def names(self, body):
        """The names of the let statements of a body, in the order in which they stand."""
        found = []
        for statement in body:
            if statement[0] == "let":
                found.append(statement[1])
            for part in statement[1:]:
                if isinstance(part, tuple) and part and isinstance(part[0], tuple):
                    found += self.names(part)
        return found

    def assert_names(self, text, forward, reverse):
        """The let statements of all forward bodies and of all reverse bodies have these names."""
        with self.subTest(text=text):
            tape = transform(read_program(text))
            bodies = [each[3] for each in tape[2]] + [tape[3], tape[4]]
            for parity, names in ((0, forward), (1, reverse)):
                found = [name for body in bodies[parity::2] for name in self.names(body)]
                self.assertEqual(found, names.split())

    def test_through_procedures_and_the_beat(self):
        self.assert_names(
            "(state x) (procedure f () ((p)) (set p (div 1 p)) (set p 1)) (procedure g () () (let z 1 (set z (div z z))))"
            "(beat (set x 1) (set x (div x 2)) (set x (div x x)))",
            "t0 z t0 t0 t0", "t0 t1 t2 t3 z t4 t5 t6 t7 t8 t9 t10 t11 t12",
        )

    def test_in_the_order_of_the_reverse_body(self):
        self.assert_beat(
            "(set x (div x y)) (let z (div x y) (set x (div 1 z)) (set y 2)) (set y (div y 2))",
            "(let t0 (div x y) (push x) (set x t0)) (let z (div x y) (let t0 (div 1 z) (push x) (set x t0)) (push y) (set y 2)"
            " (push z)) (let t0 (div y 2) (push y) (set y t0))",
            "(let t0 (bar y) (let t1 y (set (bar y) 0) (pop y) (set (bar y) (add (bar y) (div t0 2)))))"
            "(let z 0 (pop z) (let t2 (bar y) (set (bar y) 0) (pop y))"
            " (let t3 (bar x) (let t4 x (set (bar x) 0) (pop x) (let t5 (div t3 z) (set (bar z) (sub (bar z) (mul t5 t4))))))"
            " (let t6 (div (bar z) y) (set (bar x) (add (bar x) t6)) (set (bar y) (sub (bar y) (mul t6 z)))))"
            "(let t7 (bar x) (let t8 x (set (bar x) 0) (pop x)"
            " (let t9 (div t7 y) (set (bar x) (add (bar x) t9)) (set (bar y) (sub (bar y) (mul t9 t8))))))",
        )

    def test_both_bodies_of_an_if(self):
        self.assert_names(
            "(state x) (beat (if (zero x) ((set x 1) (set x (div x x))) ((set x 1))) (loop i 2 (set x 2)))",
            "t0", "t0 t1 t2 t3 t4 t5",
        )

    def test_names_of_the_tree_are_skipped(self):
        beat = "(beat (set x (div x x)) (set x 1))"
        for name, forward, reverse in (
            ("t0", "t1", "t1 t2 t3 t4"), ("t1", "t0", "t0 t2 t3 t4"), ("t3", "t0", "t0 t1 t2 t4"), ("t4", "t0", "t0 t1 t2 t3"),
        ):
            for head in (
                f"(state {name})", f"(state {name} 2)", f"(param {name})", f"(procedure {name} () ())",
                f"(procedure f ({name}) ())", f"(procedure f () (({name})))", f"(procedure f () () (loop {name} 2))",
                f"(procedure f () () (if (less 1 2) () ((loop i 2 (loop {name} 2)))))",
            ):
                self.assert_names(f"(state x) {head} {beat}", forward, reverse)
            self.assert_names(f"(state x) (beat (set x (div x x)) (set x 1) (loop {name} 3))", forward, reverse)
            self.assert_names(
                f"(state x) (beat (let {name} 3) (set x (div x x)) (set x 1))", f"{name} {forward}", f"{reverse} {name}"
            )

    def test_names_that_simplify_made(self):
        adjoint = make_adjoint(read_program("(state x) (beat (set x (div (add x 1) x)))"))
        self.assertEqual(adjoint[2][3], read_tape_body(
            "(let t0 (add x 1) (let t1 (div t0 x) (push x) (set x t1)) (push t0))"
        ))
        self.assertEqual(adjoint[2][4], read_tape_body(
            "(let t0 0 (pop t0) (let t1 (bar x) (let t2 x (set (bar x) 0) (pop x)"
            " (let t3 (div t1 x) (set (bar t0) (add (bar t0) t3)) (set (bar x) (sub (bar x) (mul t3 t2))))))"
            " (set (bar x) (add (bar x) (bar t0))))"
        ))


if __name__ == "__main__":
    unittest.main()
