"""Points 30 to 41: checking programs, and what their declarations mean."""

import unittest

from countermarch.checking import cells, check, layout, variables_at
from countermarch.errors import TreeError
from countermarch.limits import (
    MAX_CELLS,
    MAX_DEPTH,
    MAX_HANDED,
    MAX_INTEGER,
    MAX_NODES,
    MAX_PROCEDURES,
    MAX_SIZE,
    PRIME,
)
from countermarch.words import read_program
from programs import random_program

ONE = ("number", 1)
ZERO = ("integer", 0)
SET_X = ("set", ("x", None), ONE)
HEAD = "(state x) (state v 3) (param k) (param w 2) "
PROCEDURES = "(procedure f (i) ((a) (b 3))) (procedure g () ()) "


def with_beat(*statements):
    """A tree with the states x and v, the parameters k and w, and these statements."""
    return (("x", 0), ("v", 3)), (("k", 0), ("w", 2)), (), statements


def with_expression(expression):
    return with_beat(("set", ("x", None), expression))


def with_index(index):
    return with_beat(("loop", "i", index, ()))


def with_test(test):
    return with_beat(("if", test, (), ()))


class CheckingCase(unittest.TestCase):
    def assert_program(self, tree):
        with self.subTest(tree=repr(tree)[:300]):
            self.assertIsNone(check(tree))

    def assert_refused(self, tree, path, reason):
        with self.subTest(tree=repr(tree)[:300]):
            with self.assertRaises(TreeError) as caught:
                check(tree)
            self.assertEqual((caught.exception.path, caught.exception.reason), (path, reason))
            self.assertIs(type(caught.exception.path), tuple)

    def assert_good(self, text):
        self.assert_program(read_program(text))

    def assert_bad(self, text, path, reason):
        self.assert_refused(read_program(text), path, reason)

    def assert_shape(self, tree):
        self.assert_refused(tree, (), "shape")

    def assert_beat(self, body, reason):
        """The first statement of the beat is wrong, also behind two procedures."""
        self.assert_bad(f"{HEAD} (beat {body})", (0, 0), reason)
        self.assert_bad(f"{HEAD} {PROCEDURES} (beat {body})", (2, 0), reason)

    def assert_procedure(self, body, reason):
        """The first statement of a procedure with the integer i and the references a and b is wrong."""
        self.assert_bad(f"{HEAD} (procedure f (i) ((a) (b 3)) {body}) (beat)", (0, 0), reason)


class TestPrograms(CheckingCase):
    """Point 30."""

    def test_programs(self):
        self.assert_good("(state x) (beat)")
        self.assert_good("(state x) (beat (set x (mul x x)))")
        self.assert_good(
            HEAD + "(procedure f (i j) ((a) (b 3)) (loop n i (set (at b n) (add a k))) (call f (j i) (a b)))"
            "(beat (call f (1 beat) (x v)) (let t (at w 1) (call f (0 0) (t v)))"
            " (if (not (zero (div x 2))) ((set x 3)) ((loop i 3 (set (at v i) (at w (rem i 2)))))))"
        )

    def test_random_programs(self):
        for seed in range(200):
            self.assert_program(random_program(seed))

    def test_values_that_are_no_tree(self):
        for value in (0, 1, -1, PRIME, None, True, False, "", "x", "abcd", "(beat)"):
            self.assert_shape(value)

    def test_tuples_that_are_no_tree(self):
        whole = with_beat(SET_X)
        for value in ((), (whole,), whole[:3], whole + ((),), whole[:2], (1, 2, 3, 4), (None,) * 4, ("",) * 4):
            self.assert_shape(value)

    def test_lists_are_no_tuples(self):
        self.assert_shape([(("x", 0),), (), (), ()])
        self.assert_shape(([("x", 0)], (), (), ()))

    def test_deep_and_large_values(self):
        for start in ((), 1, "x", None):
            value = start
            for _ in range(99):
                value = (value,)
            self.assert_shape(value)
            self.assert_shape(((("x", 0),), (), (), value))
        deep = ONE
        for _ in range(90):
            deep = ("add", deep, ONE)
        self.assert_refused(with_expression(deep), (), "limits")
        for _ in range(45):
            deep = with_beat(("let", "t", ONE, (deep,)))[3][0]
        self.assert_shape(with_beat(deep))
        wide = with_beat(*[SET_X] * 4900)
        self.assert_refused(wide, (), "limits")

    def test_a_deep_statement(self):
        statement = SET_X
        for _ in range(45):
            statement = ("if", ("equal", ZERO, ZERO), (), (statement,))
        self.assert_refused(with_beat(statement), (), "limits")

    def test_a_deep_head_of_a_form(self):
        head = ()
        for _ in range(60):
            head = (head,)
        self.assert_shape(with_expression((head, ONE, ONE)))
        self.assert_shape(with_beat((head,)))
        self.assert_shape(((("x", head),), (), (), ()))
        self.assert_shape((((head, 0),), (), (), ()))


class TestPaths(CheckingCase):
    """Point 31."""

    def test_statements_of_the_beat(self):
        self.assert_bad("(state x) (beat (set y 1))", (0, 0), "scope")
        self.assert_bad("(state x) (beat (set x 1) (set x 2) (set y 1))", (0, 2), "scope")

    def test_statements_of_procedures(self):
        text = HEAD + "(procedure f () () {}) (procedure g () ((x)) (set x 1) {}) (beat {})"
        self.assert_bad(text.format("(set y 1)", "", ""), (0, 0), "scope")
        self.assert_bad(text.format("", "(set y 1)", ""), (1, 1), "scope")
        self.assert_bad(text.format("", "", "(set y 1)"), (2, 0), "scope")

    def test_inner_bodies(self):
        self.assert_bad("(state x) (beat (loop i 2 (set x 1) (set y 1)))", (0, 0, 0, 1), "scope")
        self.assert_bad("(state x) (beat (set x 1) (let t 2 (set y 1)))", (0, 1, 0, 0), "scope")
        self.assert_bad("(state x) (beat (if (zero x) ((set y 1)) ()))", (0, 0, 0, 0), "scope")
        self.assert_bad("(state x) (beat (if (zero x) () ((set x 1) (set y 1))))", (0, 0, 1, 1), "scope")

    def test_inner_bodies_of_inner_bodies(self):
        text = "(beat (set x 1) (if (zero x) () ((let t 1 (set x 2) (loop i 2 (set t 1) (set t 2) (set y 1))))))"
        self.assert_bad("(state x)" + text, (0, 1, 1, 0, 0, 1, 0, 2), "scope")
        self.assert_bad("(state x) (procedure f () ((x)) " + text[6:] + "(beat)", (0, 1, 1, 0, 0, 1, 0, 2), "scope")


class TestOrder(CheckingCase):
    """Point 32."""

    def test_shape_is_ahead_of_all(self):
        bad_shape = ("set", ("x", None), ("number", PRIME))
        self.assert_shape(((), (), (("f", ("a", "a"), (), ()),), (("set", ("y", None), ONE), bad_shape)))

    def test_limits_are_ahead_of_names(self):
        self.assert_refused(((), (("k", 0), ("k", 0)), (), ()), (), "limits")
        self.assert_refused(((("x", 0), ("x", 0)), (), (), (SET_X,) * 151), (), "limits")

    def test_declarations_are_ahead_of_heads(self):
        procedure = ("f", ("a", "a"), (), ())
        self.assert_refused(((("x", 0), ("x", 0)), (), (procedure,), ()), (), "names")
        self.assert_refused(((("x", 0),), (), (procedure, procedure), ()), (), "names")

    def test_heads_are_ahead_of_statements(self):
        self.assert_bad("(state x) (procedure f () () (set y 1)) (procedure g (a a) ()) (beat)", (1,), "names")
        self.assert_bad("(state x) (procedure f (a a) ()) (procedure g (a a) ()) (beat)", (0,), "names")

    def test_statements_in_the_order_of_the_text(self):
        text = "(state x) (procedure f () ((x)) {} (loop i 1 {}) {}) (procedure g () () {}) (beat {})"
        for k in range(5):
            bad = "(set (at x 0) 1)" if k < 3 else "(call h () ())"
            words = [""] * k + [bad] + ["(set y 1)"] * (4 - k)
            paths = ((0, 0), (0, 0, 0, 0), (0, 1), (1, 0), (2, 0))
            self.assert_bad(text.format(*words), paths[k], "size" if k < 3 else "call")

    def test_a_statement_is_ahead_of_its_inner_bodies(self):
        self.assert_bad("(state x) (beat (if (zero (at x 1)) ((set y 1)) ()))", (0, 0), "size")
        self.assert_bad("(state x) (beat (if (zero x) ((set (at x 0) 1)) ((set y 1))))", (0, 0, 0, 0), "size")

    def test_reasons_at_one_statement(self):
        self.assert_beat("(set (at k 1) y)", "scope")
        self.assert_beat("(set (at k 1) 1)", "size")
        self.assert_beat("(set k (at x 1))", "size")
        self.assert_beat("(call h (n) (k k))", "scope")
        self.assert_beat("(call h () (k k))", "assigned")
        self.assert_beat("(call h () (x x))", "call")


class TestShape(CheckingCase):
    """Point 33."""

    def test_variables(self):
        for variable in ((), ("x",), ("x", 0, 0), "x", 1, None, ("x", None), ("x", "0"), (0, "x"), ("x", (0,)), (None, 0)):
            self.assert_shape(((variable,), (), (), ()))
            self.assert_shape(((("y", 0),), (variable,), (), ()))
            self.assert_shape(((("y", 0),), (), (("f", (), (variable,), ()),), ()))

    def test_rows_of_variables(self):
        for row in ("x", 1, None, ("x", 0), (("x", 0), ())):
            self.assert_shape((row, (), (), ()))
            self.assert_shape(((("y", 0),), row, (), ()))
            self.assert_shape(((("y", 0),), (), (("f", (), row, ()),), ()))

    def test_sizes(self):
        for size in range(MAX_SIZE + 1):
            self.assert_program(((("x", size),), (("k", size),), (("f", (), (("a", size),), ()),), ()))
        for size in (-1, MAX_SIZE + 1, True, False, None, "1"):
            self.assert_shape(((("x", size),), (), (), ()))
            self.assert_shape(((("x", 0),), (("k", size),), (), ()))
            self.assert_shape(((("x", 0),), (), (("f", (), (("a", size),), ()),), ()))

    def test_procedures(self):
        for procedure in (
            (), ("f",), ("f", (), ()), ("f", (), (), (), ()), "f", 1, None, ((), (), (), ()), (1, (), (), ()),
            ("f", "a", (), ()), ("f", None, (), ()), ("f", (1,), (), ()), ("f", (("a",),), (), ()), ("f", (), (), None),
            ("f", (), (), "s"), ("f", (), (), (1,)), ("f", (), ("a",), ()),
        ):
            self.assert_shape(((("x", 0),), (), (procedure,), ()))
        self.assert_shape(((("x", 0),), (), ("f", (), (), ()), ()))

    def test_names(self):
        good = ("a", "z9", "abcdefgh", "t0", "x1234567", "number", "index", "place")
        bad = ("", "A", "aB", "abcdefghi", "1", "1a", "a_b", "a b", " a", "a ", "a\n", "\u00e9", "a\u0661", "a\u00b2")
        bad += ("set", "zero", "beat", "at", "param", "not", True, 1, None, ())
        for name in good:
            self.assert_program(((("x", 0),), ((name, 0),), (), ()))
            self.assert_program(((("x", 0),), (), ((name, (), (), ()),), ()))
            self.assert_program(((("x", 0),), (), (("p", (name,), (), ()), ("q", (), ((name, 0),), ())), ()))
            self.assert_program(with_beat(("loop", name, ZERO, ()), ("let", name, ONE, ())))
        for name in bad:
            self.assert_shape((((name, 0),), (), (), ()))
            self.assert_shape(((("x", 0),), ((name, 0),), (), ()))
            self.assert_shape(((("x", 0),), (), ((name, (), (), ()),), ()))
            self.assert_shape(((("x", 0),), (), (("f", (name,), (), ()),), ()))
            self.assert_shape(((("x", 0),), (), (("f", (), ((name, 0),), ()),), ()))
            self.assert_shape(with_beat(("loop", name, ZERO, ())))
            self.assert_shape(with_beat(("let", name, ONE, ())))
            self.assert_shape(with_beat(("call", name, (), ())))
            self.assert_shape(with_beat(("call", "f", (), (name,))))
            self.assert_shape(with_beat(("set", (name, None), ONE)))
            self.assert_shape(with_expression(("place", name, None)))
            self.assert_shape(with_index(("index", name)))

    def test_statements(self):
        for statement in (
            (), "set", 1, None, ("set",), ("set", ("x", None)), SET_X + (ONE,), ("sett", ("x", None), ONE), (1, 2, 3),
            (None, ("x", None), ONE), ("set", "x", ONE), ("set", ("x",), ONE), ("set", ("x", None, None), ONE),
            ("set", ("x", 0), ONE), ("set", ("x", ()), ONE), ("set", ("x", False), ONE), ("set", None, ONE),
            ("set", ("place", "x", None), ONE), ("set", ("x", ONE), ONE), ("set", ("x", None), ZERO),
            ("loop", "i", ZERO), ("loop", "i", ZERO, (), ()), ("loop", "i", ZERO, None), ("loop", "i", ONE, ()),
            ("loop", "i", ZERO, SET_X), ("loop", "i", 3, ()),
            ("if", ("zero", ONE), ()), ("if", ("zero", ONE), (), (), ()), ("if", ONE, (), ()), ("if", None, (), ()),
            ("if", ("zero", ONE), SET_X, ()), ("if", ("zero", ONE), (), SET_X), ("if", ("zero", ONE), None, ()),
            ("call", "f", ()), ("call", "f", (), (), ()), ("call", "f", ZERO, ()), ("call", "f", (ONE,), ()),
            ("call", "f", (), "x"), ("call", "f", (), (("x", None),)), ("call", "f", None, ()), ("call", "f", (1,), ()),
            ("let", "t", ONE), ("let", "t", ONE, (), ()), ("let", "t", ZERO, ()), ("let", "t", ONE, None),
            ("let", "t", ONE, SET_X), ("push", ONE), ("number", 1), ("let", ("t", None), ONE, ()),
        ):
            self.assert_shape(with_beat(statement))
            self.assert_shape(with_beat(SET_X, ("loop", "i", ZERO, (SET_X, statement))))
            self.assert_shape(with_beat(("let", "t", ONE, (statement,))))
            self.assert_shape(with_beat(("if", ("zero", ONE), (statement,), ())))
            self.assert_shape(with_beat(("if", ("zero", ONE), (), (statement,))))
            self.assert_shape(((("x", 0),), (), (("f", (), (), (statement,)),), ()))
        self.assert_shape(with_beat()[:3] + (SET_X,))

    def test_expressions(self):
        place = ("place", "x", None)
        for expression in (
            (), "x", 1, None, True, ("number",), ("number", 1, 1), ("place", "x"), ("place", "x", None, None),
            ("place", ("x", None)), ("place", "x", 0), ("place", "x", ()), ("place", "x", ONE), ("place", "x", False),
            ("add",), ("add", ONE), ("add", ONE, ONE, ONE), ("add", ONE, 1), ("add", None, ONE), ("plus", ONE, ONE),
            ("pow", ONE, ONE), ("Add", ONE, ONE), (0, ONE, ONE), (None, ONE, ONE), ZERO, ("beat",), ("index", "i"),
            ("bar", "x", None), ("add", ZERO, ONE), ("add", ONE, ("zero", place)), ("zero", place),
        ):
            self.assert_shape(with_expression(expression))
            self.assert_shape(with_expression(("sub", expression, ONE)))
            self.assert_shape(with_expression(("div", ONE, ("mul", ONE, expression))))
            self.assert_shape(with_beat(("let", "t", expression, ())))
            self.assert_shape(with_test(("zero", expression)))

    def test_numbers(self):
        for n in (0, 1, PRIME - 1):
            self.assert_program(with_expression(("number", n)))
        for n in (-1, PRIME, PRIME + 1, True, False, None, "1", (1,)):
            self.assert_shape(with_expression(("number", n)))

    def test_indexes(self):
        for index in (
            (), "i", 1, None, True, ("integer",), ("integer", 1, 1), ("index",), ("index", "i", "i"), ("index", 0),
            ("beat", None), ("beat", 0), "beat", ("plus",), ("plus", ZERO), ("plus", ZERO, ZERO, ZERO),
            ("plus", ZERO, 0), ("minus", None, ZERO), ("add", ZERO, ZERO), ("rem", ZERO), ("rem", ZERO, ("integer", 3)),
            ("rem", 3, 3), ("rem", ZERO, 3, 3), ("rem", ZERO, None), ("number", 1), ("place", "x", None),
            ("times", ZERO, ONE), (1, ZERO, ZERO), ("div", ZERO, ZERO),
        ):
            self.assert_shape(with_index(index))
            self.assert_shape(with_index(("times", ZERO, index)))
            self.assert_shape(with_index(("minus", index, ZERO)))
            self.assert_shape(with_index(("rem", index, 3)))
            self.assert_shape(with_beat(("call", "f", (ZERO, index), ())))
            self.assert_shape(with_test(("less", index, ZERO)))
            self.assert_shape(with_test(("equal", ZERO, index)))
            if index is not None:
                self.assert_shape(with_beat(("set", ("v", index), ONE)))
                self.assert_shape(with_expression(("place", "v", index)))

    def test_integers(self):
        for n in (0, 1, MAX_INTEGER):
            self.assert_program(with_index(("integer", n)))
        for n in (-1, MAX_INTEGER + 1, True, False, None, "1", (1,)):
            self.assert_shape(with_index(("integer", n)))

    def test_divisors(self):
        for n in (1, 2, MAX_INTEGER):
            self.assert_program(with_index(("rem", ZERO, n)))
        for n in (-1, 0, MAX_INTEGER + 1, True, False, "1", ZERO):
            self.assert_shape(with_index(("rem", ZERO, n)))

    def test_tests(self):
        good = ("less", ZERO, ZERO)
        for test in (
            (), "zero", 1, None, True, ("less",), ("less", ZERO), ("less", ZERO, ZERO, ZERO), ("less", ONE, ZERO),
            ("equal", ZERO, 0), ("equal", ZERO), ("zero",), ("zero", ONE, ONE), ("zero", ZERO), ("zero", 0), ("zero", good),
            ("not",), ("not", good, good), ("not", ONE), ("not", None), ("and", good, good), ("greater", ZERO, ZERO),
            (True, ZERO, ZERO), (good,),
        ):
            self.assert_shape(with_test(test))
            self.assert_shape(with_test(("not", test)))
            self.assert_shape(with_test(("not", ("not", test))))


class TestLimits(CheckingCase):
    """Point 34."""

    def assert_limits(self, tree):
        self.assert_refused(tree, (), "limits")

    def test_cells_of_the_state(self):
        arrays = (("a", 8), ("b", 8), ("c", 8))
        self.assert_program((arrays + (("d", 8),), (), (), ()))
        self.assert_program((arrays + (("d", 7), ("e", 0)), (), (), ()))
        self.assert_program((arrays + (("d", 7), ("e", 1)), (), (), ()))
        self.assert_program((tuple((f"x{k}", 0) for k in range(MAX_CELLS)), (), (), ()))
        self.assert_program(((("x", 0),), (), (), ()))
        self.assert_limits((arrays + (("d", 8), ("e", 0)), (), (), ()))
        self.assert_limits((arrays + (("d", 8), ("e", 1)), (), (), ()))
        self.assert_limits((tuple((f"x{k}", 0) for k in range(MAX_CELLS + 1)), (), (), ()))
        self.assert_limits(((), (), (), ()))
        self.assert_limits(((), (("k", 0),), (), ()))

    def test_cells_of_the_parameters(self):
        state = (("x", 0),)
        arrays = (("a", 8), ("b", 8), ("c", 8))
        self.assert_program((state, (), (), ()))
        self.assert_program((state, arrays + (("d", 8),), (), ()))
        self.assert_program((state, arrays + (("d", 7), ("e", 0)), (), ()))
        self.assert_limits((state, arrays + (("d", 8), ("e", 0)), (), ()))
        self.assert_limits((state, arrays + (("d", 8), ("e", 1)), (), ()))
        self.assert_limits((state, tuple((f"k{k}", 0) for k in range(MAX_CELLS + 1)), (), ()))

    def nodes(self, count):
        """Beats with this many nodes, by different sorts of nodes."""
        two = SET_X
        three = ("set", ("x", None), ("place", "v", ZERO))
        bodies = [(two,) * (count // 2 - 1) + ((two,) if count % 2 == 0 else (three,))]
        body = (("loop", "i", ("rem", ZERO, 3), ()),) + (three,) * ((count - 3) // 3)
        bodies.append(body + (((), (("call", "g", (), ()),), (two,))[count % 3]))
        body = (("set", ("v", ("plus", ZERO, ZERO)), ONE), ("if", ("not", ("zero", ONE)), (), ()))
        bodies.append(body + ((two,) * ((count - 9) // 2)) + ((("call", "g", (), ()),) if count % 2 == 0 else ()))
        return bodies

    def test_nodes(self):
        head = with_beat()[:2] + ((("g", (), (), ()),),)
        for body in self.nodes(MAX_NODES):
            self.assert_program(head + (body,))
        for body in self.nodes(MAX_NODES + 1):
            self.assert_limits(head + (body,))

    def test_nodes_of_procedures_count(self):
        state = (("x", 0),)
        for many, extra in ((MAX_NODES // 2, 0), (MAX_NODES // 2 - 5, 5)):
            procedures = (("f", (), (("x", 0),), (SET_X,) * extra), ("g", (), (("x", 0),), (SET_X,)))
            self.assert_program((state, (), procedures, (SET_X,) * (many - 1)))
            self.assert_limits((state, (), procedures, (SET_X,) * many))

    def test_a_place_is_no_node_but_its_index_is(self):
        statement = ("set", ("v", ZERO), ONE)
        self.assert_program(with_beat(*[statement] * 100))
        self.assert_limits(with_beat(*[statement] * 100, ("call", "f", (), ())))

    def test_a_divisor_is_no_node(self):
        statement = ("loop", "i", ("rem", ZERO, 3), ())
        self.assert_program(with_beat(*[statement] * 100))
        self.assert_limits(with_beat(*[statement] * 101))

    def test_indexes_of_calls_and_sides_of_tests_are_nodes(self):
        procedures = (("f", ("a", "b"), (), ()),)
        call = ("call", "f", (ZERO, ("beat",)), ())
        test = ("if", ("less", ZERO, ZERO), (), ())
        self.assert_program(((("x", 0),), (), procedures, (call,) * 60 + (test,) * 30))
        self.assert_limits(((("x", 0),), (), procedures, (call,) * 61 + (test,) * 30))
        self.assert_limits(((("x", 0),), (), procedures, (call,) * 60 + (test,) * 31))

    def nested(self, depth, wrap, inmost):
        value = inmost
        for _ in range(depth - 1):
            value = wrap(value)
        return value

    def assert_depth(self, in_tree, wrap, inmost):
        """A value of this sort may be nested MAX_DEPTH deep, and no deeper."""
        self.assert_program(in_tree(self.nested(MAX_DEPTH, wrap, inmost)))
        self.assert_limits(in_tree(self.nested(MAX_DEPTH + 1, wrap, inmost)))

    def in_procedure(self, statement):
        return (("x", 0),), (), (("f", (), (("x", 0),), (statement,)),), ()

    def test_depth_of_statements(self):
        names = iter(f"n{k}" for k in range(1000))
        wraps = (
            lambda part: ("loop", next(names), ZERO, (part,)),
            lambda part: ("let", next(names), ONE, (part,)),
            lambda part: ("if", ("zero", ONE), (part,), ()),
            lambda part: ("if", ("zero", ONE), (), (SET_X, part)),
        )
        for wrap in wraps:
            self.assert_depth(with_beat, wrap, SET_X)
            self.assert_depth(self.in_procedure, wrap, SET_X)

    def test_depth_of_expressions(self):
        for wrap in (lambda part: ("add", part, ONE), lambda part: ("div", ONE, part)):
            for inmost in (ONE, ("place", "x", None), ("place", "v", ("plus", ZERO, ("plus", ZERO, ZERO)))):
                self.assert_depth(with_expression, wrap, inmost)
                self.assert_depth(lambda e: with_beat(("let", "t", e, (SET_X,))), wrap, inmost)
                self.assert_depth(lambda e: with_test(("not", ("not", ("zero", e)))), wrap, inmost)

    def test_depth_of_indexes(self):
        wraps = (
            lambda part: ("plus", part, ZERO),
            lambda part: ("times", ZERO, part),
            lambda part: ("rem", part, 3),
        )
        for wrap in wraps:
            for inmost in (ZERO, ("beat",)):
                self.assert_depth(with_index, wrap, inmost)
                self.assert_depth(lambda i: with_beat(("set", ("v", i), ONE)), wrap, inmost)
                self.assert_depth(lambda i: with_expression(("place", "v", i)), wrap, inmost)
                self.assert_depth(lambda i: with_test(("not", ("less", ZERO, i))), wrap, inmost)
                called = with_beat()[:2] + ((("f", ("a",), (), ()),),)
                self.assert_depth(lambda i: called + ((("call", "f", (i,), ()),),), wrap, inmost)

    def test_depth_of_tests(self):
        for inmost in (("zero", ("add", ONE, ONE)), ("less", ZERO, ("plus", ZERO, ZERO))):
            self.assert_depth(with_test, lambda part: ("not", part), inmost)

    def test_each_sort_counts_anew(self):
        index = self.nested(4, lambda part: ("minus", part, ZERO), ZERO)
        expression = self.nested(4, lambda part: ("mul", part, ONE), ("place", "v", index))
        test = self.nested(4, lambda part: ("not", part), ("zero", expression))
        statement = self.nested(4, lambda part: ("if", test, (), (part,)), ("set", ("v", index), expression))
        self.assert_program(with_beat(statement))

    def test_procedures(self):
        procedures = [(f"p{k}", (), (), ()) for k in range(MAX_PROCEDURES + 1)]
        self.assert_program(((("x", 0),), (), tuple(procedures[:-1]), ()))
        self.assert_limits(((("x", 0),), (), tuple(procedures), ()))

    def test_integers_and_references(self):
        integers = tuple(f"i{k}" for k in range(MAX_HANDED + 1))
        references = tuple((f"r{k}", 8) for k in range(MAX_HANDED + 1))
        state = (("x", 0),)
        self.assert_program((state, (), (("f", integers[:-1], references[:-1], ()),), ()))
        self.assert_limits((state, (), (("f", integers, (), ()),), ()))
        self.assert_limits((state, (), (("f", (), references, ()),), ()))
        self.assert_limits((state, (), (("f", (), (), ()), ("g", (), references, ())), ()))


class TestNames(CheckingCase):
    """Point 35."""

    def test_declarations(self):
        good = "(state x) (state y) (param k) (param w) (procedure f () ()) (procedure g () ()) (beat)"
        self.assert_good(good)
        for one, other in (("y", "x"), ("k", "x"), ("w", "k"), ("f", "x"), ("f", "k"), ("g", "f"), ("x", "g")):
            self.assert_bad(good.replace(f" {one}", f" {other}"), (), "names")

    def test_heads(self):
        head = "(state x) (param k) (procedure f {}) (procedure g {}) (beat)"
        good = "(a b) ((c) (d 3))"
        self.assert_good(head.format(good, good))
        self.assert_good(head.format("() ()", "() ()"))
        for bad in (
            "(a a) ()", "(a b a) ()", "() ((a) (a))", "() ((a) (a 3))", "(a b) ((b))", "(k) ()", "() ((k))", "() ((k 2))",
            "(f) ()", "(g) ()", "() ((f))", "() ((g))",
        ):
            self.assert_bad(head.format(bad, good), (0,), "names")
            self.assert_bad(head.format(good, bad), (1,), "names")
            self.assert_bad(head.format(bad, bad), (0,), "names")

    def test_names_of_the_state_may_occur(self):
        self.assert_good("(state x) (state v 2) (procedure f (x) ((v 2))) (procedure g () ((x 2))) (beat)")


class TestScope(CheckingCase):
    """Point 36."""

    def test_example(self):
        """The example behind point 40."""
        self.assert_bad("(state x) (beat (set x (add y 1)))", (0, 0), "scope")
        self.assert_bad("(state x) (state y 2) (beat (set x (add y 1)))", (0, 0), "size")
        self.assert_bad("(state x) (procedure f () ()) (beat (set x (add y 1)))", (1, 0), "scope")
        self.assert_bad("(state x) (state y 2) (procedure f () ()) (beat (set x (add y 1)))", (1, 0), "size")

    def test_unknown_names(self):
        for statement in (
            "(set y 1)", "(set (at y 0) 1)", "(set x y)", "(set x (at y 0))", "(set x (add 1 (mul y 2)))",
            "(set (at v n) 1)", "(set x (at v n))", "(set x (at v (plus 1 (rem n 2))))",
            "(loop i n)", "(loop i (minus 3 n))", "(let t y)", "(let t (at v n))",
            "(if (zero y) () ())", "(if (less n 1) () ())", "(if (equal 1 n) () ())", "(if (not (zero y)) () ())",
            "(call f (n) (x v))", "(call f (1) (y v))", "(call f (1) (x y))",
        ):
            self.assert_beat(statement, "scope")

    def test_names_of_the_wrong_sort(self):
        for statement in (
            "(set (at v x) 1)", "(loop i x)", "(loop i k)", "(if (less x 1) () ())", "(call f (x) (x v))", "(loop i f)",
            "(set f 1)", "(set x f)", "(call g () (f))",
        ):
            self.assert_beat(statement, "scope")
        for statement in ("(set i 1)", "(set a i)", "(call f (1) (i b))", "(let t i)", "(if (zero i) () ())", "(loop n a)"):
            self.assert_procedure(statement, "scope")
        self.assert_bad("(state x) (beat (loop i 2 (set x i)))", (0, 0, 0, 0), "scope")
        self.assert_bad("(state x) (beat (let t 2 (loop i t)))", (0, 0, 0, 0), "scope")

    def test_a_procedure_does_not_see_the_state(self):
        for statement in ("(set x 1)", "(set a x)", "(set a (at v 1))", "(call f (1) (x b))", "(if (zero x) () ())"):
            self.assert_procedure(statement, "scope")

    def test_the_beat_does_not_see_references_and_integers(self):
        text = HEAD + "(procedure f (i) ((a) (b 3))) (beat {})"
        for statement in ("(set a 1)", "(set x (at b 1))", "(loop n i)", "(set (at v i) 1)"):
            self.assert_bad(text.format(statement), (1, 0), "scope")

    def test_what_procedures_see(self):
        self.assert_good(
            HEAD + "(procedure f (i j) ((a) (b 3) (x 2)) (set a (at b i)) (set (at x j) k) (set (at b 0) (at w i))"
            " (call f (j i) (a b x))) (beat)"
        )

    def test_names_of_loops_and_lets(self):
        self.assert_good(HEAD + "(beat (loop i 2 (loop j i (set (at v j) x)) (let t (at v i) (let u t (set x u)))))")
        self.assert_good(HEAD + "(procedure f (n) ((a)) (loop i n (let t a (loop j i (set t (at w j)))))) (beat)")
        self.assert_bad("(state x) (beat (loop i 2) (loop j i))", (0, 1), "scope")
        self.assert_bad("(state x) (beat (let t 2 (set x t)) (set x t))", (0, 1), "scope")
        self.assert_bad("(state x) (beat (if (zero x) ((let t 2)) ((set x t))))", (0, 0, 1, 0), "scope")
        self.assert_bad("(state x) (beat (loop i 2 (let t 1) (set x t)))", (0, 0, 0, 1), "scope")

    def test_a_name_may_be_introduced_again_when_it_is_gone(self):
        self.assert_good("(state x) (beat (loop i 2) (loop i 3) (let i 1) (let t 1) (let t 2) (loop t 2 (let i 1)))")
        self.assert_good("(state x) (beat (if (zero x) ((let t 1)) ((loop t 1))))")

    def test_introduced_names_that_are_in_scope(self):
        for name in ("x", "v", "k", "w", "f", "g"):
            statement = f"(loop {name} 2)"
            if name in "fg":
                self.assert_bad(f"{HEAD} {PROCEDURES} (beat {statement})", (2, 0), "scope")
                self.assert_bad(f"{HEAD} {PROCEDURES} (beat (let {name} 2))", (2, 0), "scope")
                self.assert_bad(f"{HEAD} (procedure f () () {statement}) (procedure g () ()) (beat)", (0, 0), "scope")
                self.assert_bad(f"{HEAD} (procedure f () () (let {name} 1)) (procedure g () ()) (beat)", (0, 0), "scope")
            else:
                self.assert_beat(statement, "scope")
                self.assert_beat(f"(let {name} 2)", "scope")
        for name in ("a", "b", "i", "k", "w"):
            self.assert_procedure(f"(loop {name} 2)", "scope")
            self.assert_procedure(f"(let {name} 2)", "scope")

    def test_introduced_names_of_loops_and_lets_around(self):
        for outer in ("loop n 2", "let n 2"):
            for inner in ("loop n 2", "let n 2"):
                self.assert_bad(f"(state x) (beat ({outer} ({inner})))", (0, 0, 0, 0), "scope")
                self.assert_bad(
                    f"(state x) (beat ({outer} (if (zero x) () (({inner})))))", (0, 0, 0, 0, 1, 0), "scope"
                )

    def test_names_of_the_state_are_free_in_procedures(self):
        self.assert_good(HEAD + "(procedure f () () (let x 1 (set x 2)) (loop v 2 (let x 1))) (beat)")

    def test_own_expression_and_count(self):
        self.assert_beat("(let t t)", "scope")
        self.assert_beat("(let t (add 1 t))", "scope")
        self.assert_beat("(loop i i)", "scope")
        self.assert_beat("(loop i (plus 1 i))", "scope")

    def test_the_called_name_is_no_matter_of_scope(self):
        self.assert_beat("(call h () ())", "call")
        self.assert_beat("(call x () ())", "call")


class TestSize(CheckingCase):
    """Point 37."""

    def test_scalars_with_an_index(self):
        for statement in (
            "(set (at x 0) 1)", "(set x (at x 0))", "(set x (at k 0))", "(let t (add 1 (at x 0)))",
            "(if (zero (at x 0)) () ())", "(set (at v 0) (at k 1))", "(set (at k 0) 1)",
        ):
            self.assert_beat(statement, "size")
        self.assert_procedure("(set (at a 0) 1)", "size")
        self.assert_bad("(state x) (beat (let t 1 (set (at t 0) 1)))", (0, 0, 0, 0), "size")

    def test_arrays_without_an_index(self):
        for statement in ("(set v 1)", "(set x v)", "(set x w)", "(let t (add 1 w))", "(if (zero v) () ())", "(set w 1)"):
            self.assert_beat(statement, "size")
        self.assert_procedure("(set b 1)", "size")

    def test_an_array_of_one_cell_is_no_scalar(self):
        self.assert_good("(state x 1) (beat (set (at x 0) 1))")
        self.assert_bad("(state x 1) (beat (set x 1))", (0, 0), "size")

    def test_names_of_a_call_stand_for_whole_variables(self):
        self.assert_good(HEAD + PROCEDURES + "(beat (call f (1) (x v)))")
        self.assert_bad(HEAD + PROCEDURES + "(beat (call f (1) (v x)))", (2, 0), "call")


class TestAssigned(CheckingCase):
    """Point 38."""

    def test_parameters_are_not_set(self):
        self.assert_beat("(set k 1)", "assigned")
        self.assert_beat("(set (at w 0) 1)", "assigned")
        self.assert_procedure("(set k 1)", "assigned")
        self.assert_bad("(state x) (param k) (beat (loop i 2 (set k 1)))", (0, 0, 0, 0), "assigned")

    def test_parameters_are_not_handed_over(self):
        text = HEAD + PROCEDURES
        self.assert_bad(text + "(beat (call f (1) (k v)))", (2, 0), "assigned")
        self.assert_bad(text + "(beat (call f (1) (x w)))", (2, 0), "assigned")
        self.assert_bad(HEAD + "(procedure f () ((a)) (call f () (k))) (beat)", (0, 0), "assigned")

    def test_parameters_are_read(self):
        self.assert_good(HEAD + "(procedure f () ((a)) (set a k)) (beat (set x (add k (at w 1))) (let t k (set t k)))")


class TestCall(CheckingCase):
    """Point 39."""

    def test_what_is_no_procedure(self):
        self.assert_beat("(call h () ())", "call")
        self.assert_beat("(call v () ())", "call")

    def test_the_beat_calls_any_procedure(self):
        self.assert_good(HEAD + PROCEDURES + "(beat (call g () ()) (call f (2) (x v)))")

    def test_a_procedure_calls_itself_and_those_before_it(self):
        text = "(state x) (procedure f () () {}) (procedure g () () {}) (procedure h () () {}) (beat)"
        self.assert_good(text.format("(call f () ())", "(call f () ()) (call g () ())", "(call f () ()) (call h () ())"))
        self.assert_bad(text.format("(call g () ())", "", ""), (0, 0), "call")
        self.assert_bad(text.format("", "(call g () ()) (call h () ())", ""), (1, 1), "call")
        self.assert_bad(text.format("", "", "(loop i 1 (call k () ()))"), (2, 0, 0, 0), "call")

    def test_numbers_of_integers_and_variables(self):
        for call in (
            "(call f () (x v))", "(call f (1 2) (x v))", "(call f (1) (x))", "(call f (1) ())", "(call f (1) (x v y))",
            "(call g (1) ())", "(call g () (x))",
        ):
            self.assert_bad(f"(state y) {HEAD} {PROCEDURES} (beat {call})", (2, 0), "call")

    def test_sizes(self):
        text = "(state x) (state y 1) (state z 2) (procedure f () ({})) (beat (call f () ({})))"
        for reference, fitting in (("(a)", "x"), ("(a 1)", "y"), ("(a 2)", "z")):
            for name in "xyz":
                if name == fitting:
                    self.assert_good(text.format(reference, name))
                else:
                    self.assert_bad(text.format(reference, name), (1, 0), "call")
        self.assert_good(text.format("(a) (b 2)", "x z"))
        self.assert_bad(text.format("(a) (b 2)", "z x"), (1, 0), "call")

    def test_variables_are_distinct(self):
        text = "(state x) (state y) (procedure f () ((a) (b) (c))) (beat (let t 1 (call f () ({}))))"
        self.assert_good(text.format("x y t"))
        for names in ("x x y", "x y x", "y x x", "t y t", "x x x"):
            self.assert_bad(text.format(names), (1, 0, 0, 0), "call")

    def test_locals_and_references_are_handed_over(self):
        self.assert_good("(state x) (procedure f () ((a)) (let t a (call f () (t)) (call f () (a)))) (beat)")
        self.assert_bad("(state x) (procedure f () ((a 2)) (let t 1 (call f () (t)))) (beat)", (0, 0, 0, 0), "call")


class TestWholeStatement(CheckingCase):
    """Point 40: everything in a statement except its inner bodies belongs to it."""

    def test_scope_is_looked_for_in_the_whole_statement_first(self):
        self.assert_beat("(set (at x 1) y)", "scope")
        self.assert_beat("(set (at v n) (at x 0))", "scope")
        self.assert_beat("(if (zero (add (at x 0) y)) () ())", "scope")
        self.assert_beat("(call h (n) (k))", "scope")
        self.assert_beat("(let x (at x 0))", "scope")
        self.assert_beat("(set k (at v y))", "scope")

    def test_inner_bodies_do_not_belong_to_it(self):
        self.assert_bad("(state x) (beat (let t (at x 0) (set y 1)))", (0, 0), "size")
        self.assert_bad("(state x) (beat (loop i 1 (set y 1)) (set (at x 0) 1))", (0, 0, 0, 0), "scope")


class TestDeclarations(unittest.TestCase):
    """Point 41."""

    def test_cells(self):
        self.assertEqual(cells(()), 0)
        self.assertEqual(cells((("x", 0),)), 1)
        self.assertEqual(cells((("x", 1),)), 1)
        self.assertEqual(cells((("x", 8),)), 8)
        self.assertEqual(cells((("x", 3), ("y", 0), ("z", 1), ("u", 0))), 6)

    def test_layout(self):
        self.assertEqual(layout(()), ())
        self.assertEqual(layout((("x", 0),)), (("x", 0, 0),))
        self.assertEqual(
            layout((("x", 3), ("y", 0), ("z", 1), ("u", 8), ("w", 0))),
            (("x", 0, 3), ("y", 3, 0), ("z", 4, 1), ("u", 5, 8), ("w", 13, 0)),
        )
        self.assertIs(type(layout((("x", 3), ("y", 0)))), tuple)

    def test_variables_of_the_beat(self):
        tree = read_program(
            HEAD + "(beat (set x 1) (let t 1 (set x t) (loop i 2 (let u 1 (set x 2)) (set x 3)) (if (zero x)"
            " ((set x 4)) ((let u 1 (set x 5)))) (set x 6)) (set x 7))"
        )
        check(tree)
        outside = (("x", 0), ("v", 3), ("k", 0), ("w", 2))
        t, u = (("t", 0),), (("u", 0),)
        for path, lets in (
            ((0, 0), ()), ((0, 1), ()), ((0, 2), ()), ((0, 1, 0, 0), t), ((0, 1, 0, 1), t), ((0, 1, 0, 1, 0, 0), t),
            ((0, 1, 0, 1, 0, 0, 0, 0), t + u), ((0, 1, 0, 1, 0, 1), t), ((0, 1, 0, 2, 0, 0), t),
            ((0, 1, 0, 2, 1, 0), t), ((0, 1, 0, 2, 1, 0, 0, 0), t + u), ((0, 1, 0, 3), t),
        ):
            with self.subTest(path=path):
                self.assertEqual(variables_at(tree, path), outside + lets)

    def test_variables_of_procedures(self):
        tree = read_program(
            HEAD + "(procedure f (i) ((a) (x 2)) (let t 1 (let s 2 (set a 1)))) (procedure g () () (let a 1 (set a 2)))"
            "(beat (set x 1))"
        )
        check(tree)
        params = (("k", 0), ("w", 2))
        first = (("a", 0), ("x", 2)) + params
        self.assertEqual(variables_at(tree, (0, 0)), first)
        self.assertEqual(variables_at(tree, (0, 0, 0, 0)), first + (("t", 0),))
        self.assertEqual(variables_at(tree, (0, 0, 0, 0, 0, 0)), first + (("t", 0), ("s", 0)))
        self.assertEqual(variables_at(tree, (1, 0)), params)
        self.assertEqual(variables_at(tree, (1, 0, 0, 0)), params + (("a", 0),))
        self.assertEqual(variables_at(tree, (2, 0)), (("x", 0), ("v", 3)) + params)

    def test_results_are_tuples(self):
        tree = read_program("(state x) (beat (set x 1))")
        self.assertEqual(variables_at(tree, (0, 0)), (("x", 0),))
        self.assertIs(type(variables_at(tree, (0, 0))), tuple)


if __name__ == "__main__":
    unittest.main()
