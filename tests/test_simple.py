"""Points 49 to 53: simple programs."""

import copy
import unittest

from countermarch.checking import check
from countermarch.errors import TreeError
from countermarch.limits import MAX_DEPTH, MAX_NODES
from countermarch.simple import count_operations, is_simple, simplify
from countermarch.words import read_program
from oracle import oracle_beat
from programs import random_case, random_program

HEAD = "(state x) (state y) (state v 4) (param k) (param a) (param b) (param c) (param d)"
SIMPLE_EXPRESSIONS = (
    "0", "7", "2147483646", "x", "k", "(at v 3)", "(at v (plus beat 1))", "(add 1 2)", "(add x 1)", "(sub 1 x)",
    "(mul x x)", "(div x y)", "(div (at v 0) 3)", "(mul k (at v (rem beat 4)))",
)
OTHER_EXPRESSIONS = (
    "(add (add 1 2) 3)", "(sub x (mul x y))", "(mul (add 1 2) (add 1 2))", "(div 1 (div 1 (at v 0)))",
    "(add (at v 0) (sub (at v 1) (mul x 1)))", "(mul (div x y) k)",
)
# Where a statement may stand: in the beat, in bodies inside of statements, in a procedure, behind others.
FRAMES = (
    "(beat {})", "(beat (set x 1) (set y (add x 1)) {})", "(beat (loop i 2 {}))", "(beat (if (zero x) ({}) ()))",
    "(beat (if (zero x) () ({})))", "(beat (if (less 1 2) ((set x 1)) ((set y 2) {})))", "(beat (let t 1 {}))",
    "(beat (let t (add x 1) (loop i 2 (if (equal i 0) () ((let u t {}))))))", "(beat {} (set x 1))",
)
PROCEDURE_FRAMES = (
    "(procedure f (n) ((x) (y) (v 4)) {}) (beat (call f (1) (x y v)))",
    "(procedure g () ()) (procedure f () ((x) (y) (v 4)) (loop i 2 {})) (procedure h () ()) (beat)",
)


def tree_of(text):
    return read_program(f"{HEAD} {text}")


class TestIsSimple(unittest.TestCase):
    """Point 49."""

    def assert_simple(self, statement, expected):
        for frame in FRAMES + PROCEDURE_FRAMES:
            text = frame.format(statement)
            with self.subTest(text=text):
                self.assertIs(is_simple(tree_of(text)), expected)

    def test_set_and_let(self):
        for expressions, expected in ((SIMPLE_EXPRESSIONS, True), (OTHER_EXPRESSIONS, False)):
            for expression in expressions:
                self.assert_simple(f"(set x {expression})", expected)
                self.assert_simple(f"(set (at v 1) {expression})", expected)
                self.assert_simple(f"(let z {expression})", expected)
                self.assert_simple(f"(let z {expression} (set x z))", expected)
                self.assert_simple(f"(let z 1 (set x {expression}))", expected)

    def test_zero_tests(self):
        for test in ("(zero {})", "(not (zero {}))", "(not (not (not (zero {}))))"):
            for place in ("x", "k", "(at v 2)", "(at v (minus 3 beat))"):
                self.assert_simple(f"(if {test.format(place)} () ())", True)
            for expression in ("0", "7", "(add x 1)", "(add 1 2)", "(mul (at v 0) x)") + OTHER_EXPRESSIONS:
                self.assert_simple(f"(if {test.format(expression)} () ())", False)

    def test_other_tests_loops_and_calls(self):
        for statement in (
            "(if (less (plus (times 2 3) 1) beat) () ())", "(if (not (equal beat (rem (plus beat 2) 3))) () ())",
            "(loop j (plus (times 2 3) beat))", "(loop j (plus 1 (plus 1 (plus 1 1))) (set x 1))",
        ):
            self.assert_simple(statement, True)
        self.assertTrue(is_simple(tree_of("(procedure f (i) ()) (beat (call f ((plus (times 2 3) (minus 4 beat))) ()))")))

    def test_empty_bodies(self):
        for text in ("(beat)", "(procedure f () ()) (beat)", "(beat (loop i 2) (if (less 1 2) () ()) (let z 1))"):
            self.assertIs(is_simple(tree_of(text)), True)

    def test_what_simplify_returned(self):
        for seed in range(300):
            self.assertIs(is_simple(simplify(random_program(seed))), True)


class TestSimplify(unittest.TestCase):
    """Points 50 to 52."""

    def assert_beat(self, before, after, head=HEAD):
        """The first beat is simplified to the second one."""
        with self.subTest(before=before):
            tree = read_program(f"{head} (beat {before})")
            self.assertEqual(simplify(tree), read_program(f"{head} (beat {after})"))

    def test_example(self):
        self.assert_beat(
            "(set x (add (mul a b) (div c (sub d 1))))",
            "(let t0 (mul a b) (let t1 (sub d 1) (let t2 (div c t1) (set x (add t0 t2)))))",
        )
        lets = simplify(tree_of("(beat (set x (add (mul x y) 1)))"))[3]
        product = ("mul", ("place", "x", None), ("place", "y", None))
        total = ("add", ("place", "t0", None), ("number", 1))
        self.assertEqual(lets, (("let", "t0", product, (("set", ("x", None), total),)),))

    def test_set(self):
        self.assert_beat("(set x (add (mul x y) k))", "(let t0 (mul x y) (set x (add t0 k)))")
        self.assert_beat("(set x (sub k (mul x y)))", "(let t0 (mul x y) (set x (sub k t0)))")
        self.assert_beat("(set x (mul (add x 1) (add x 1)))", "(let t0 (add x 1) (let t1 (add x 1) (set x (mul t0 t1))))")
        self.assert_beat(
            "(set (at v (plus beat 1)) (div (at v beat) (sub (at v 1) 2)))",
            "(let t0 (sub (at v 1) 2) (set (at v (plus beat 1)) (div (at v beat) t0)))",
        )

    def test_operands_several_levels_deep(self):
        self.assert_beat(
            "(set x (add (sub (mul x 1) 2) 3))", "(let t0 (mul x 1) (let t1 (sub t0 2) (set x (add t1 3))))"
        )
        self.assert_beat(
            "(set x (add 3 (sub 2 (mul 1 x))))", "(let t0 (mul 1 x) (let t1 (sub 2 t0) (set x (add 3 t1))))"
        )
        self.assert_beat(
            "(set x (add (sub (mul x 1) (mul x 2)) (div (mul x 3) (mul x 4))))",
            "(let t0 (mul x 1) (let t1 (mul x 2) (let t2 (sub t0 t1) (let t3 (mul x 3) (let t4 (mul x 4)"
            " (let t5 (div t3 t4) (set x (add t2 t5))))))))",
        )

    def test_let(self):
        self.assert_beat("(let z (add (mul x y) 1) (set x z))", "(let t0 (mul x y) (let z (add t0 1) (set x z)))")
        self.assert_beat(
            "(let z (div (mul x y) (add x 1)) (set z (add (mul z z) 1)) (set x z))",
            "(let t0 (mul x y) (let t1 (add x 1) (let z (div t0 t1) (let t2 (mul z z) (set z (add t2 1))) (set x z))))",
        )
        self.assert_beat("(let z (add x 1) (set x (add (mul z z) 1)))", "(let z (add x 1) (let t0 (mul z z) (set x (add t0 1))))")

    def test_zero_tests(self):
        set_x, set_y = "((set x 1))", "((set y 2) (set x 3))"
        self.assert_beat(f"(if (zero 0) {set_x} {set_y})", f"(let t0 0 (if (zero t0) {set_x} {set_y}))")
        self.assert_beat(f"(if (zero (add x 1)) {set_x} {set_y})", f"(let t0 (add x 1) (if (zero t0) {set_x} {set_y}))")
        self.assert_beat(
            f"(if (not (zero (add (mul x y) 1))) {set_x} {set_y})",
            f"(let t0 (mul x y) (let t1 (add t0 1) (if (not (zero t1)) {set_x} {set_y})))",
        )
        self.assert_beat(f"(if (not (not (zero 5))) {set_x} ())", f"(let t0 5 (if (not (not (zero t0))) {set_x} ()))")
        self.assert_beat(
            "(if (not (not (zero (mul x 2)))) () ())", "(let t0 (mul x 2) (if (not (not (zero t0))) () ()))"
        )
        for test in ("(zero x)", "(not (zero (at v 1)))", "(not (not (zero k)))", "(less beat 2)", "(not (equal 1 beat))"):
            before, after = "(set x (add (add x 1) 1))", "(let t0 (add x 1) (set x (add t0 1)))"
            self.assert_beat(f"(if {test} ({before}) ())", f"(if {test} ({after}) ())")

    def test_bodies_inside(self):
        before, after = "(set x (add (add x 1) 1))", "(let {} (add x 1) (set x (add {} 1)))"
        first, second, third = [after.format(name, name) for name in ("t0", "t1", "t2")]
        self.assert_beat(f"(loop i 3 {before} {before})", f"(loop i 3 {first} {second})")
        self.assert_beat(f"(if (less 1 2) ({before}) ({before} {before}))", f"(if (less 1 2) ({first}) ({second} {third}))")
        self.assert_beat(f"(let z 1 {before} (set x 1) {before})", f"(let z 1 {first} (set x 1) {second})")

    def test_names_of_a_statement_before_those_of_its_bodies(self):
        self.assert_beat(
            "(let z (add (mul x 1) (mul x 2)) (set x (add (mul x 3) 1))) (set y (add (mul x 4) 1))",
            "(let t0 (mul x 1) (let t1 (mul x 2) (let z (add t0 t1) (let t2 (mul x 3) (set x (add t2 1))))))"
            " (let t3 (mul x 4) (set y (add t3 1)))",
        )
        self.assert_beat(
            "(if (zero (add (mul x 1) 2)) ((set x (add (mul x 3) 1))) ((loop i 2 (set x (add (mul x 4) 1)))))"
            " (set y (add (mul x 5) 1))",
            "(let t0 (mul x 1) (let t1 (add t0 2) (if (zero t1) ((let t2 (mul x 3) (set x (add t2 1))))"
            " ((loop i 2 (let t3 (mul x 4) (set x (add t3 1)))))))) (let t4 (mul x 5) (set y (add t4 1)))",
        )

    def test_calls_and_loops_do_not_change(self):
        head = HEAD + "(procedure f (i) ((p) (q)))"
        call = "(call f ((plus (times 1 2) (minus 3 beat))) (x y))"
        self.assert_beat(
            f"{call} (loop i (plus (times 1 2) 3) {call}) (set x (add (add x 1) 1))",
            f"{call} (loop i (plus (times 1 2) 3) {call}) (let t0 (add x 1) (set x (add t0 1)))", head,
        )

    def test_procedures_are_numbered_in_order_before_the_beat(self):
        before = (
            "(procedure f (i) ((p)) (set p (add (mul p p) 1))) (procedure g () ())"
            "(procedure h () ((p)) (loop j 2 (if (zero 0) () ())) (call g () ()) (set p (add (mul p p) 1)))"
            "(beat (set x (add (mul x x) 1)))"
        )
        after = (
            "(procedure f (i) ((p)) (let t0 (mul p p) (set p (add t0 1)))) (procedure g () ())"
            "(procedure h () ((p)) (loop j 2 (let t1 0 (if (zero t1) () ())))"
            " (call g () ()) (let t2 (mul p p) (set p (add t2 1))))"
            "(beat (let t3 (mul x x) (set x (add t3 1))))"
        )
        self.assertEqual(simplify(tree_of(before)), tree_of(after))

    def test_a_simple_tree_is_returned_as_it_is(self):
        for frame in FRAMES + PROCEDURE_FRAMES:
            for expression in SIMPLE_EXPRESSIONS:
                tree = tree_of(frame.format(f"(set x {expression})"))
                self.assertEqual(simplify(tree), copy.deepcopy(tree))
        for seed in range(100):
            simple = simplify(random_program(seed))
            self.assertEqual(simplify(simple), simple)

    def test_the_argument_is_unchanged(self):
        for seed in range(100):
            tree = random_program(seed)
            before = copy.deepcopy(tree)
            simplify(tree)
            is_simple(tree)
            self.assertEqual(tree, before)


class TestNames(unittest.TestCase):
    """Point 52: names that the tree has are skipped."""

    def assert_names(self, text, *names):
        """The new local variables of the simplified tree have these names, in the order of the text."""
        with self.subTest(text=text):
            tree = read_program(text)
            simple = simplify(tree)
            check(simple)
            bodies = [procedure[3] for procedure in simple[2]] + [simple[3]]
            found = [name for body in bodies for name in self.lets(body)]
            before = [name for body in [each[3] for each in tree[2]] + [tree[3]] for name in self.lets(body)]
            self.assertEqual([name for name in found if name not in before], list(names))

    def lets(self, body):
        names = []
        for statement in body:
            if statement[0] == "let":
                names.append(statement[1])
            for inner in {"if": statement[2:], "let": statement[3:], "loop": statement[3:]}.get(statement[0], ()):
                names += self.lets(inner)
        return names

    BEAT = "(set x (add (mul x 1) (mul x 2)))"

    def test_without_a_reason_to_skip(self):
        self.assert_names(f"(state x) (state t) (state t01) (param u0) (beat {self.BEAT})", "t0", "t1")
        self.assert_names("(state x) (state t00) (beat (set x (add (mul x (add x 2)) 1)))", "t0", "t1")

    def test_each_sort_of_name(self):
        for name, expected in (("t0", ("t1", "t2")), ("t1", ("t0", "t2")), ("t2", ("t0", "t1"))):
            for text in (
                f"(state x) (state {name}) (beat {self.BEAT})",
                f"(state {name} 3) (state x) (beat {self.BEAT})",
                f"(state x) (param {name}) (beat {self.BEAT})",
                f"(state x) (param {name} 2) (beat {self.BEAT})",
                f"(state x) (procedure {name} () ()) (beat {self.BEAT})",
                f"(state x) (procedure f ({name}) ()) (beat {self.BEAT})",
                f"(state x) (procedure f () (({name}))) (beat {self.BEAT})",
                f"(state x) (procedure f () (({name} 3))) (beat {self.BEAT})",
                f"(state x) (beat {self.BEAT} (loop {name} 3))",
                f"(state x) (beat (loop {name} 3 {self.BEAT}))",
                f"(state x) (beat {self.BEAT} (let {name} 3))",
                f"(state x) (beat (let {name} 3 {self.BEAT}))",
                f"(state x) (beat {self.BEAT} (loop i 3 (if (less 1 2) () ((let {name} 3)))))",
                f"(state x) (procedure f () () (if (less 1 2) () ((loop i 2 (let {name} 3))))) (beat {self.BEAT})",
                f"(state x) (procedure f () () (loop {name} 3)) (beat {self.BEAT})",
                f"(state z) (procedure f () ((x)) {self.BEAT}) (beat (let {name} 3))",
            ):
                self.assert_names(text, *expected)

    def test_several_names(self):
        self.assert_names(
            f"(state x) (param t0) (procedure t2 (t5) ((t1)) (set t1 (add (mul t1 2) 1))) (beat {self.BEAT} (let t4 1))",
            "t3", "t6", "t7",
        )
        many = " ".join(f"(let t{k} 1)" for k in range(120))
        self.assert_names(f"(state x) (beat {self.BEAT} {many})", "t120", "t121")


class TestMeaning(unittest.TestCase):
    """Points 50 and 53."""

    def assert_same(self, tree, params, state, beat, fuel):
        simple = simplify(tree)
        found = oracle_beat(tree, params, state, beat, fuel)
        self.assertEqual(oracle_beat(simple, params, state, beat, fuel)[:4], found[:4])
        return found[0]

    def test_random_programs(self):
        faults = [self.assert_same(*random_case(seed)) for seed in range(600)]
        for fault in (None, "zero", "index", "calls", "fuel"):
            self.assertGreater(faults.count(fault), 2, fault)

    def test_faults_in_their_order(self):
        for statement, fault in (
            ("(set x (add (at v 9) (div 1 0)))", "zero"), ("(set x (add (add 1 (at v 9)) (div 1 0)))", "index"),
            ("(set x (add (div 1 0) (add 1 (at v 9))))", "zero"), ("(set (at v 9) (add 1 (div 1 0)))", "zero"),
            ("(set x (add (div (at v 9) 0) 1))", "index"), ("(let z (mul (add (at v 9) 1) (div 1 0)))", "index"),
            ("(if (zero (add (div 1 0) (at v 9))) () ())", "zero"), ("(set x (div (add 1 2) (sub 1 1)))", "zero"),
            ("(if (not (zero (add (at v 9) (mul 1 (div 1 0))))) () ())", "zero"), ("(set (at v 9) (add (add 1 1) 1))", "index"),
        ):
            with self.subTest(statement=statement):
                tree = tree_of(f"(beat {statement})")
                self.assertEqual(self.assert_same(tree, (0,) * 5, (0,) * 6, 0, 300), fault)

    def test_every_fuel(self):
        tree = tree_of("(beat (loop i 2 (set x (add (mul x x) (mul y y)))) (if (zero (add x (mul y 2))) ((set x 1)) ((set y 2))))")
        faults = [self.assert_same(tree, (0,) * 5, (3, 4, 0, 0, 0, 0), 0, fuel) for fuel in range(-1, 7)]
        self.assertEqual(faults, ["fuel"] * 6 + [None] * 2)

    def test_the_result_keeps_the_rules_of_check(self):
        kept = 0
        for seed in range(300):
            try:
                check(simplify(random_program(seed)))
                kept += 1
            except TreeError as error:
                self.assertEqual((error.path, error.reason), ((), "limits"))
        self.assertGreater(kept, 50)

    def test_beyond_the_limit_on_nesting(self):
        self.assertEqual(MAX_DEPTH, 4)
        text = "(beat (set x (add (mul (sub x 1) (sub x 2)) (mul (sub x 3) (sub x 4)))))"
        simple = simplify(tree_of(text))
        with self.assertRaises(TreeError) as caught:
            check(simple)
        self.assertEqual((caught.exception.path, caught.exception.reason), ((), "limits"))
        self.assertTrue(is_simple(simple))
        self.assertEqual(self.assert_same(tree_of(text), (0,) * 5, (9, 0, 0, 0, 0, 0), 0, 300), None)

    def test_beyond_the_limit_on_nodes(self):
        self.assertEqual(MAX_NODES, 300)
        deep = "(set x (add (add x 1) (add x 2)))"
        tree = tree_of(f"(beat {deep * 36})")
        check(tree)
        simple = simplify(tree)
        self.assertTrue(is_simple(simple))
        self.assertEqual(self.assert_same(tree, (0,) * 5, (9, 0, 0, 0, 0, 0), 0, 300), None)
        with self.assertRaises(TreeError):
            check(simple)

    def test_programs_that_are_nested_as_deep_as_can_be(self):
        seven = "(add (mul (sub x 0) (sub x 0)) (mul (sub x 0) (sub x 0)))"
        text = f"(if (zero {seven}) ((if (zero {seven}) ((if (zero {seven}) ({{}}) ())) ())) ())"
        inner = text.format(f"(set x {seven})")
        tree = tree_of(f"(procedure f () ((x)) {text.format('(call f () (x))')}) (beat {inner})")
        check(tree)
        self.assertIsNone(self.assert_same(tree, (0,) * 5, (0,) * 6, 0, 300))
        tree = tree_of(f"(procedure f () ((x)) {text.format('(call f () (x))')}) (beat {text.format('(call f () (x))')})")
        self.assertEqual(self.assert_same(tree, (0,) * 5, (0,) * 6, 0, 300), "calls")


class TestCountOperations(unittest.TestCase):
    """count_operations of the interface."""

    def assert_count(self, body, count):
        with self.subTest(body=body):
            tree = tree_of(f"(procedure f (i) ((p)) (set p (mul p (add p 1)))) (beat {body})")
            self.assertEqual(count_operations(tree[3]), count)
            self.assertEqual(count_operations(simplify(tree)[3]), count)

    def test_each_statement(self):
        self.assert_count("", 0)
        for expression, count in (("1", 0), ("x", 0), ("(add x 1)", 1), ("(div (mul x y) 2)", 2), ("(sub 1 (add x (mul x 2)))", 3),
                                  ("(add (sub (mul x 1) (mul x 2)) (div (mul x 3) (mul x 4)))", 7)):
            self.assert_count(f"(set x {expression})", count)
            self.assert_count(f"(set (at v (plus 1 1)) {expression})", count)
            self.assert_count(f"(let z {expression})", count)
            self.assert_count(f"(if (zero {expression}) () ())", count)
            self.assert_count(f"(if (not (not (zero {expression}))) () ())", count)

    def test_indexes_and_other_tests_do_not_count(self):
        self.assert_count("(loop i (plus 1 2)) (if (less (plus 1 2) 3) () ()) (if (not (equal 1 (times 1 1))) () ())", 0)
        self.assert_count("(set (at v (plus 1 1)) (at v (minus 2 1)))", 0)

    def test_inner_bodies(self):
        one = "(set x (add x 1))"
        self.assert_count(f"{one} {one}", 2)
        self.assert_count(f"(loop i 7 {one} {one})", 2)
        self.assert_count(f"(if (less 1 2) ({one}) ({one} {one}))", 3)
        self.assert_count(f"(let z (mul x x) {one} {one})", 3)
        self.assert_count(f"(if (zero (mul x x)) ({one}) ((loop i 2 (let z (add x (sub x 1)) {one} {one}))))", 6)

    def test_called_procedures_do_not_count(self):
        self.assert_count("(call f (1) (x))", 0)
        self.assert_count("(set x (add x 1)) (call f ((plus 1 1)) (x))", 1)
        tree = tree_of("(procedure f (i) ((p)) (set p (mul p (add p 1)))) (beat)")
        self.assertEqual(count_operations(tree[2][0][3]), 2)

    def test_random_programs(self):
        for seed in range(200):
            tree = random_program(seed)
            simple = simplify(tree)
            self.assertEqual(count_operations(simple[3]), count_operations(tree[3]))
            for before, after in zip(tree[2], simple[2]):
                self.assertEqual(count_operations(after[3]), count_operations(before[3]))


if __name__ == "__main__":
    unittest.main()
