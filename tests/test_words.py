"""Points 23 to 29: program texts."""

import unittest

from countermarch.errors import TextError
from countermarch.limits import MAX_FORMS, MAX_TEXT, PRIME
from countermarch.words import read_program, split_words, write_program
from programs import random_program

RESERVED = (
    "state param procedure beat set loop if call let at add sub mul div"
    " plus minus times rem less equal zero not"
).split()

# Each place where a name stands, with N for the name.
NAME_PLACES = (
    "(state N) (beat)",
    "(state N 3) (beat)",
    "(param N) (beat)",
    "(procedure N () ()) (beat)",
    "(procedure f (N) ()) (beat)",
    "(procedure f (a N) ()) (beat)",
    "(procedure f () ((N))) (beat)",
    "(procedure f () ((a) (N 2))) (beat)",
    "(beat (set N 1))",
    "(beat (set (at N 0) 1))",
    "(beat (loop N 3))",
    "(beat (call N () ()))",
    "(beat (call f () (N)))",
    "(beat (let N 1))",
    "(beat (set x N))",
    "(beat (set x (at N 0)))",
    "(beat (set x (mul N 1)))",
    "(beat (loop i N))",
    "(beat (loop i (plus 1 N)))",
    "(beat (if (less N 1) () ()))",
    "(beat (if (zero N) () ()))",
)


def number(n):
    return ("number", n)


def place(name, index=None):
    return ("place", name, index)


class WordsCase(unittest.TestCase):
    def assert_refused(self, marked):
        """The text is wrong where the bar stands, which is no part of it."""
        at = marked.index("|")
        self.assert_wrong_at(marked.replace("|", "", 1), at)

    def assert_wrong_at(self, text, at):
        with self.subTest(text=text[:200]):
            with self.assertRaises(TextError) as caught:
                read_program(text)
            self.assertEqual(caught.exception.at, at)

    def assert_reads(self, text, tree):
        with self.subTest(text=text):
            self.assertEqual(read_program(text), tree)
            self.assert_plain_parts(read_program(text))

    def assert_plain_parts(self, value):
        """A tree consists of tuples, strings, integers and None, and of nothing else."""
        self.assertIn(type(value), (tuple, str, int, type(None)))
        if type(value) is tuple:
            for part in value:
                self.assert_plain_parts(part)

    def assert_statement(self, text, statement):
        self.assert_reads(f"(beat {text})", ((), (), (), (statement,)))

    def assert_expression(self, text, expression):
        self.assert_statement(f"(set x {text})", ("set", ("x", None), expression))

    def assert_index(self, text, index):
        self.assert_statement(f"(loop i {text})", ("loop", "i", index, ()))

    def assert_test(self, text, test):
        self.assert_statement(f"(if {text} () ())", ("if", test, (), ()))


class TestSplitWords(WordsCase):
    """Point 23."""

    def test_words_and_their_indexes(self):
        found = split_words("(state x) (beat)")
        pairs = [("(", 0), ("state", 1), ("x", 7), (")", 8), ("(", 10), ("beat", 11), (")", 15)]
        self.assertEqual(found, pairs)
        self.assertIs(type(found), list)
        self.assertTrue(all(type(pair) is tuple for pair in found))

    def test_spaces_and_newlines(self):
        self.assertEqual(split_words("ab  \n\n  c\n d \n"), [("ab", 0), ("c", 8), ("d", 11)])
        self.assertEqual(split_words("\n \na"), [("a", 3)])
        self.assertEqual(split_words("a\nb c"), [("a", 0), ("b", 2), ("c", 4)])

    def test_parentheses_without_spaces(self):
        pairs = [("ab", 0), ("(", 2), ("(", 3), ("c", 4), (")", 5), ("d", 6), (")", 7), ("e", 8)]
        self.assertEqual(split_words("ab((c)d)e"), pairs)
        self.assertEqual(split_words(")("), [(")", 0), ("(", 1)])

    def test_any_characters_make_a_word(self):
        text = "".join(chr(code) for code in range(33, 127) if chr(code) not in "%()")
        self.assertEqual(split_words(text), [(text, 0)])
        self.assertEqual(split_words("x-1,[2]"), [("x-1,[2]", 0)])

    def test_texts_without_words(self):
        self.assertEqual(split_words(""), [])
        self.assertEqual(split_words(" "), [])
        self.assertEqual(split_words("  \n \n"), [])

    def test_longest_text(self):
        self.assertEqual(MAX_TEXT, 6000)
        self.assertEqual(split_words("a" * 6000), [("a" * 6000, 0)])
        self.assertEqual(split_words(" " * 5999 + "b"), [("b", 5999)])

    def test_text_that_is_too_long(self):
        for text in ("a" * 6001, " " * 6001, "\t" * 6001, " " * 6000 + "%", "(beat)" + " " * 5995):
            for function in (split_words, read_program):
                with self.assertRaises(TextError) as caught:
                    function(text)
                self.assertEqual(caught.exception.at, 0)

    def test_first_wrong_character(self):
        wrong = ["\t", "%", "\r", "\x00", "\x0b", "\x1f", "\x7f", "\x80", "\xa0", "\u00e9", "\u0661", "\U0001f600"]
        for character in wrong:
            for before in ("", "(beat)", "ab (\n"):
                text = before + character + "c\t%\u00e9"
                for function in (split_words, read_program):
                    with self.subTest(text=text), self.assertRaises(TextError) as caught:
                        function(text)
                    self.assertEqual(caught.exception.at, len(before))

    def test_wrong_character_at_the_end(self):
        with self.assertRaises(TextError) as caught:
            split_words("(beat)" + " " * 5993 + "%")
        self.assertEqual(caught.exception.at, 5999)

    def test_only_the_first_two_cases_are_refused(self):
        self.assertEqual(split_words(") x"), [(")", 0), ("x", 2)])


class TestNames(WordsCase):
    """Point 24."""

    def test_names(self):
        for name in ("a", "z", "abcdefgh", "a1234567", "x0", "t0", "zz9z", "beats", "sets", "index", "integer"):
            for text in NAME_PLACES:
                with self.subTest(name=name, text=text):
                    self.assertIn(repr(name), repr(read_program(text.replace("N", name))))

    def test_what_is_no_name(self):
        wrong = ["abcdefghi", "a12345678", "X", "xY", "Abc", "x_y", "_x", "x-y", "x.", "x'", "1x", "-1", "?"]
        for word in wrong + RESERVED:
            for text in NAME_PLACES:
                if word != "beat" or ("loop i N" not in text and "1 N" not in text and "less N" not in text):
                    self.assert_refused(text.replace("N", "|" + word))

    def test_numerals_are_no_names(self):
        for text in NAME_PLACES[:14]:
            for word in ("0", "7", "00"):
                self.assert_refused(text.replace("N", "|" + word))

    def test_a_form_is_no_name(self):
        for text in NAME_PLACES[:14]:
            if "set N" not in text:
                self.assert_refused(text.replace("N", "|(x)"))
                self.assert_refused(text.replace("N", "|()"))

    def test_numerals(self):
        self.assert_expression("0", number(0))
        self.assert_expression("9", number(9))
        self.assert_expression("10", number(10))
        self.assert_expression("1000000000", number(1000000000))
        for word in ("00", "01", "007", "0000000000", "10000000000", "00000000001", "1a", "+1", "1_0", "1.0"):
            self.assert_refused(f"(beat (set x |{word}))")
            self.assert_refused(f"(beat (loop i |{word}))")
            self.assert_refused(f"(state x |{word}) (beat)")
            self.assert_refused(f"(beat (loop i (rem 1 |{word})))")


class TestDeclarations(WordsCase):
    """Point 25."""

    def test_variables(self):
        self.assert_reads("(state x) (beat)", ((("x", 0),), (), (), ()))
        self.assert_reads("(state x 1) (beat)", ((("x", 1),), (), (), ()))
        self.assert_reads("(state x 8) (beat)", ((("x", 8),), (), (), ()))
        self.assert_reads("(param k) (beat)", ((), (("k", 0),), (), ()))
        self.assert_reads("(param k 8) (beat)", ((), (("k", 8),), (), ()))
        self.assert_reads("(state x)(state y 2)(param k)(beat)", ((("x", 0), ("y", 2)), (("k", 0),), (), ()))

    def test_wrong_sizes(self):
        for size in ("0", "9", "10", "x", "-1", "(1)", "()"):
            self.assert_refused(f"(state x |{size}) (beat)")
            self.assert_refused(f"(param x |{size}) (beat)")
            self.assert_refused(f"(procedure f () ((x |{size}))) (beat)")

    def test_procedures(self):
        self.assert_reads("(procedure f () ()) (beat)", ((), (), (("f", (), (), ()),), ()))
        self.assert_reads(
            "(procedure f (i j) ((a) (b 3)) (call f () ()) (set a 1)) (procedure g () ()) (beat)",
            ((), (), (
                ("f", ("i", "j"), (("a", 0), ("b", 3)), (("call", "f", (), ()), ("set", ("a", None), number(1)))),
                ("g", (), (), ()),
            ), ()),
        )

    def test_beat(self):
        self.assert_reads("(beat)", ((), (), (), ()))
        self.assert_reads(
            "(beat (set x 1) (set y 2))",
            ((), (), (), (("set", ("x", None), number(1)), ("set", ("y", None), number(2)))),
        )

    def test_names_have_no_meaning_yet(self):
        self.assert_reads("(state x) (state x) (param x) (beat)", ((("x", 0), ("x", 0)), (("x", 0),), (), ()))
        self.assert_reads("(procedure f (a a) ((a))) (beat)", ((), (), (("f", ("a", "a"), (("a", 0),), ()),), ()))

    def test_no_limit_of_a_tree_is_asked_for(self):
        names = " ".join(f"a{k}" for k in range(20))
        tree = read_program(f"(procedure f ({names}) ()) " * 9 + "(beat)")
        self.assertEqual(len(tree[2]), 9)
        self.assertEqual(len(tree[2][0][1]), 20)


class TestForms(WordsCase):
    """Points 26 and 27."""

    def test_set(self):
        self.assert_statement("(set x 1)", ("set", ("x", None), number(1)))
        self.assert_statement("(set (at x 2) y)", ("set", ("x", ("integer", 2)), place("y")))
        self.assert_statement("(set (at x i) y)", ("set", ("x", ("index", "i")), place("y")))

    def test_loop(self):
        self.assert_statement("(loop i 3)", ("loop", "i", ("integer", 3), ()))
        body = (("set", ("x", None), number(1)), ("set", ("y", None), number(2)))
        self.assert_statement("(loop i n (set x 1) (set y 2))", ("loop", "i", ("index", "n"), body))

    def test_if(self):
        test = ("zero", place("x"))
        self.assert_statement("(if (zero x) () ())", ("if", test, (), ()))
        one, two = ("set", ("x", None), number(1)), ("set", ("x", None), number(2))
        self.assert_statement("(if (zero x) ((set x 1)) ())", ("if", test, (one,), ()))
        self.assert_statement("(if (zero x) () ((set x 2)))", ("if", test, (), (two,)))
        self.assert_statement("(if (zero x) ((set x 1) (set x 2)) ((set x 2)))", ("if", test, (one, two), (two,)))

    def test_call(self):
        self.assert_statement("(call f () ())", ("call", "f", (), ()))
        self.assert_statement(
            "(call f (1 (plus i 2) beat) (x y))",
            ("call", "f", (("integer", 1), ("plus", ("index", "i"), ("integer", 2)), ("beat",)), ("x", "y")),
        )

    def test_let(self):
        self.assert_statement("(let a 1)", ("let", "a", number(1), ()))
        body = (("set", ("x", None), place("a")), ("set", ("y", None), number(2)))
        self.assert_statement("(let a (add x 1) (set x a) (set y 2))", ("let", "a", ("add", place("x"), number(1)), body))

    def test_expressions(self):
        self.assert_expression("y", place("y"))
        self.assert_expression("(at y 0)", place("y", ("integer", 0)))
        self.assert_expression("(at y (times i j))", place("y", ("times", ("index", "i"), ("index", "j"))))
        for op in ("add", "sub", "mul", "div"):
            self.assert_expression(f"({op} y 1)", (op, place("y"), number(1)))
            self.assert_expression(f"({op} 1 ({op} 2 y))", (op, number(1), (op, number(2), place("y"))))

    def test_largest_number(self):
        self.assert_expression("2147483646", number(PRIME - 1))
        for word in ("2147483647", "2147483648", "9999999999"):
            self.assert_refused(f"(beat (set x |{word}))")
            self.assert_refused(f"(beat (set x (add 1 |{word})))")

    def test_indexes(self):
        self.assert_index("0", ("integer", 0))
        self.assert_index("n", ("index", "n"))
        self.assert_index("beat", ("beat",))
        for op in ("plus", "minus", "times"):
            self.assert_index(f"({op} n 1)", (op, ("index", "n"), ("integer", 1)))
            self.assert_index(f"({op} beat ({op} 1 2))", (op, ("beat",), (op, ("integer", 1), ("integer", 2))))
        self.assert_index("(rem n 7)", ("rem", ("index", "n"), 7))
        self.assert_index("(rem (rem beat 5) 3)", ("rem", ("rem", ("beat",), 5), 3))

    def test_largest_integer(self):
        self.assert_index("1000", ("integer", 1000))
        for word in ("1001", "2147483646"):
            self.assert_refused(f"(beat (loop i |{word}))")
            self.assert_refused(f"(beat (loop i (plus 1 |{word})))")
            self.assert_refused(f"(beat (set (at x |{word}) 1))")

    def test_divisors(self):
        self.assert_index("(rem n 1)", ("rem", ("index", "n"), 1))
        self.assert_index("(rem n 1000)", ("rem", ("index", "n"), 1000))
        for word in ("0", "1001", "n", "beat", "(plus 1 2)", "()"):
            self.assert_refused(f"(beat (loop i (rem n |{word})))")

    def test_tests(self):
        self.assert_test("(less n 1)", ("less", ("index", "n"), ("integer", 1)))
        self.assert_test("(equal beat n)", ("equal", ("beat",), ("index", "n")))
        self.assert_test("(zero (add x 1))", ("zero", ("add", place("x"), number(1))))
        self.assert_test("(not (zero 5))", ("not", ("zero", number(5))))
        self.assert_test("(not (not (less 1 2)))", ("not", ("not", ("less", ("integer", 1), ("integer", 2)))))

    def test_spaces_do_not_matter(self):
        text = "(state x)(beat(set x(mul x x))(if(zero x)()((set x 1))))"
        spaced = text.replace("(", " \n( ").replace(")", "  )\n ")
        self.assertEqual(read_program(text), read_program(spaced))

    def test_what_is_no_expression(self):
        for wrong in ("|beat", "|add", "|()", "(|plus 1 2)", "(|zero 1)", "(|x)", "(|(add 1 2) 1)", "(|5 1 2)"):
            self.assert_refused(f"(beat (set x {wrong}))")
            self.assert_refused(f"(beat (set x (sub 1 {wrong})))")

    def test_what_is_no_index(self):
        for wrong in ("|plus", "|()", "(|add 1 2)", "(|at x 1)", "(|beat)", "(|x)", "(|(plus 1 2) 1)", "|at"):
            self.assert_refused(f"(beat (loop i {wrong}))")
            self.assert_refused(f"(beat (loop i (times 1 {wrong})))")
            self.assert_refused(f"(beat (set (at x {wrong}) 1))")
            self.assert_refused(f"(beat (call f (1 {wrong}) ()))")

    def test_what_is_no_test(self):
        for wrong in ("|x", "|1", "|zero", "|()", "(|add 1 2)", "(|plus 1 2)", "(|(zero x))"):
            self.assert_refused(f"(beat (if {wrong} () ()))")
            self.assert_refused(f"(beat (if (not {wrong}) () ()))")

    def test_what_is_no_place(self):
        for wrong in ("|1", "|()", "|(at)", "|(at x)", "|(at x 1 2)", "(|add x 1)", "(|x 1)", "(at |(x) 1)", "|at"):
            self.assert_refused(f"(beat (set {wrong} 1))")

    def test_what_is_no_statement(self):
        for wrong in ("|x", "|set", "|1", "|()", "(|x)", "(|add 1 2)", "(|beat)", "(|state x)", "(|(set x 1))"):
            self.assert_refused(f"(beat {wrong})")
            self.assert_refused(f"(beat (set x 1) {wrong})")
            self.assert_refused(f"(beat (loop i 2 {wrong}))")
            self.assert_refused(f"(beat (let a 2 {wrong}))")
            self.assert_refused(f"(beat (if (zero x) ({wrong}) ()))")
            self.assert_refused(f"(beat (if (zero x) () ({wrong})))")
            self.assert_refused(f"(procedure f () () {wrong}) (beat)")

    def test_a_word_where_a_form_must_stand(self):
        for text in (
            "(beat (if (zero x) |y ()))",
            "(beat (if (zero x) () |y))",
            "(beat (call f |i ()))",
            "(beat (call f () |x))",
            "(procedure f |i ()) (beat)",
            "(procedure f () |a) (beat)",
            "(procedure f () (|a)) (beat)",
            "(procedure f () ((a) |b 2)) (beat)",
        ):
            self.assert_refused(text)


class TestFirstError(WordsCase):
    """Point 28."""

    def test_case_1_is_ahead_of_all(self):
        self.assert_wrong_at(") \t" + " " * 6000, 0)

    def test_case_2_is_ahead_of_cases_3_to_5(self):
        self.assert_refused(") x (beat (set X 1) |% )")
        self.assert_refused("x |\t")
        self.assert_refused("(state|\t")

    def test_case_3_is_ahead_of_cases_4_and_5(self):
        self.assert_refused("(state X) (beat (set)) |)")
        self.assert_refused("(state X) |x")
        self.assert_refused("(foo) (bar|")
        self.assert_refused("(beat) |beat (state")
        self.assert_refused("(state x)|)")

    def test_case_3_goes_from_left_to_right(self):
        self.assert_refused("|x )")
        self.assert_refused("|) x")
        self.assert_refused("() |) x")
        self.assert_refused("(beat) |1 )")
        self.assert_refused("(" * 20 + "|(" + ")" * 30)
        self.assert_refused("(beat) |x " + "(" * 25)
        self.assert_refused("(" * 20 + "|((((( x")

    def test_forms_around_a_parenthesis(self):
        self.assertEqual(MAX_FORMS, 20)
        self.assert_refused("(" * 20 + "|(" + ")" * 21)
        # With 19 forms around it, a parenthesis is none too deep: what is wrong is the first one.
        self.assert_wrong_at("(" * 20 + ")" * 20, 1)
        deep = "(not " * 17 + "(zero x)" + ")" * 17
        self.assertEqual(len(read_program(f"(beat (if {deep} () ()))")[3]), 1)
        deeper = "(not " * 18 + "|(zero x)" + ")" * 18
        self.assert_refused(f"(beat (if {deeper} () ()))")
        self.assert_refused("(beat " + "(add " * 19 + "|(")

    def test_forms_that_are_not_closed(self):
        for text in ("(", "(beat", "(beat ", "(beat (set x 1)", "(beat (set x 1) \n", "(beat) (", "((" * 10):
            self.assert_wrong_at(text, len(text))

    def test_case_4_is_ahead_of_case_5(self):
        self.assert_refused("(|foo)")
        self.assert_refused("(state |X)")
        self.assert_refused("|()")

    def test_case_5(self):
        for text in ("", " ", "\n\n ", "(state x)", "(state x)  \n", "(param x)", "(procedure f () ())"):
            self.assert_wrong_at(text, len(text))

    def test_first_parts_of_declarations(self):
        for wrong in ("foo", "set", "x", "1", "(state)", "()", "State"):
            self.assert_refused(f"(|{wrong} x 1 2 3) (beat)")
            self.assert_refused(f"(state x) (|{wrong}) (beat)")

    def test_empty_declarations(self):
        self.assert_refused("|() (beat)")
        self.assert_refused("(state x) |() (beat)")
        self.assert_refused("(beat) |()")

    def test_numbers_of_parts_of_declarations(self):
        for text in (
            "|(state) (beat)", "|(state x 1 2) (beat)", "|(state X 9 ()) (beat)",
            "|(param) (beat)", "|(param x 1 2) (beat)",
            "|(procedure) (beat)", "|(procedure f) (beat)", "|(procedure f ()) (beat)", "|(procedure F x) (beat)",
            "(procedure f () (|())) (beat)", "(procedure f () (|(a 1 2))) (beat)", "(procedure f () (|(A 9 9))) (beat)",
        ):
            self.assert_refused(text)

    def test_numbers_of_parts_of_statements(self):
        for statement in (
            "|(set)", "|(set x)", "|(set x 1 2)", "|(set X)", "|(set 1 X X)",
            "|(loop)", "|(loop i)", "|(loop I)", "|(let)", "|(let a)", "|(let A)",
            "|(if)", "|(if (zero x))", "|(if (zero x) ())", "|(if (zero x) () () ())", "|(if X ())",
            "|(call)", "|(call f)", "|(call f ())", "|(call f () () ())", "|(call F ())",
        ):
            self.assert_refused(f"(beat {statement})")

    def test_numbers_of_parts_of_expressions_indexes_and_tests(self):
        for op in ("add", "sub", "mul", "div", "at"):
            for parts in ("", " X", " X Y 1"):
                self.assert_refused(f"(beat (set x |({op}{parts})))")
        for op in ("plus", "minus", "times", "rem"):
            for parts in ("", " X", " X Y 1"):
                self.assert_refused(f"(beat (loop i |({op}{parts})))")
        for parts in ("", " X", " X Y 1"):
            self.assert_refused(f"(beat (if |(less{parts}) () ()))")
            self.assert_refused(f"(beat (if |(equal{parts}) () ()))")
        for parts in ("", " X Y", " X Y 1"):
            self.assert_refused(f"(beat (if |(zero{parts}) () ()))")
            self.assert_refused(f"(beat (if |(not{parts}) () ()))")

    def test_first_part_ahead_of_the_number_of_parts(self):
        self.assert_refused("(beat (|foo))")
        self.assert_refused("(beat (set x (|foo 1 2 3 4)))")
        self.assert_refused("(beat (set (|foo) 1))")
        self.assert_refused("(beat (loop i (|add)))")
        self.assert_refused("(beat (if (|foo) () ()))")
        self.assert_refused("(beat (if (|(zero) 1) () ()))")

    def test_number_of_parts_ahead_of_the_parts(self):
        self.assert_refused("(beat |(set X Y Z))")
        self.assert_refused("(beat (set x |(add X)))")
        self.assert_refused("(state x) (beat (set x 1) |(let X))")
        self.assert_refused("(beat |(set (foo) (bar) (baz)))")

    def test_parts_in_their_order(self):
        self.assert_refused("(state |X 9) (beat)")
        self.assert_refused("(state x |9) (beat (set X 1))")
        self.assert_refused("(procedure |F x y z) (beat)")
        self.assert_refused("(procedure f |x y z) (beat)")
        self.assert_refused("(procedure f (|X) y z) (beat)")
        self.assert_refused("(procedure f () |y z) (beat)")
        self.assert_refused("(procedure f () ((|A 9)) z) (beat)")
        self.assert_refused("(procedure f () ((a |9)) z) (beat)")
        self.assert_refused("(procedure f () () |z) (beat)")
        self.assert_refused("(beat (set |X Y))")
        self.assert_refused("(beat (set x |Y) (foo))")
        self.assert_refused("(beat (set (at |X Y) Z))")
        self.assert_refused("(beat (set (at x |Y) Z))")
        self.assert_refused("(beat (loop |I J X))")
        self.assert_refused("(beat (loop i |J X))")
        self.assert_refused("(beat (loop i j |X))")
        self.assert_refused("(beat (let |A B X))")
        self.assert_refused("(beat (let a |B X))")
        self.assert_refused("(beat (let a b |X))")
        self.assert_refused("(beat (if |X y z))")
        self.assert_refused("(beat (if (zero |X) y z))")
        self.assert_refused("(beat (if (zero x) |y z))")
        self.assert_refused("(beat (if (zero x) (|y) z))")
        self.assert_refused("(beat (if (zero x) () |z))")
        self.assert_refused("(beat (call |F x y))")
        self.assert_refused("(beat (call f |x y))")
        self.assert_refused("(beat (call f (|X) y))")
        self.assert_refused("(beat (call f () |y))")
        self.assert_refused("(beat (call f () (|Y)))")
        self.assert_refused("(beat (call f (1 |Z) (Y)))")
        self.assert_refused("(beat (set x (add |X Y)))")
        self.assert_refused("(beat (set x (add x |Y)))")
        self.assert_refused("(beat (loop i (rem |X 0)))")
        self.assert_refused("(beat (loop i (rem x |0)))")
        self.assert_refused("(beat (loop i (plus |X Y)))")
        self.assert_refused("(beat (if (less |X Y) () ()))")
        self.assert_refused("(beat (if (less x |Y) () ()))")

    def test_declarations_out_of_order(self):
        self.assert_refused("(param k) (|state x) (beat)")
        self.assert_refused("(procedure f () ()) (|state x) (beat)")
        self.assert_refused("(procedure f () ()) (|param x) (beat)")
        self.assert_refused("(state x) (param k) (|state x) (beat)")

    def test_declarations_after_the_beat(self):
        for form in ("(|state x)", "(|param x)", "(|procedure f () ())", "(|beat)", "(|foo)", "(|(beat))"):
            self.assert_refused(f"(beat) {form}")

    def test_out_of_order_ahead_of_the_number_of_parts(self):
        self.assert_refused("(param k) (|state) (beat)")
        self.assert_refused("(beat) (|state)")
        self.assert_refused("(beat) (|procedure X)")

    def test_an_earlier_error_is_ahead_of_the_order(self):
        self.assert_refused("(param |K) (state x) (beat)")
        self.assert_refused("(beat (set |X 1)) (beat)")


class TestWriteProgram(WordsCase):
    """Point 29."""

    def assert_round_trip(self, tree):
        text = write_program(tree)
        self.assertEqual(read_program(text), tree)

    def test_example(self):
        text = "(state x) (beat (set x (mul x x)))"
        tree = ((("x", 0),), (), (), (("set", ("x", None), ("mul", place("x"), place("x"))),))
        self.assertEqual(read_program(text), tree)
        self.assertEqual(write_program(tree), "(state x)\n(beat (set x (mul x x)))")

    def test_texts_stay_as_they_are(self):
        lines = (
            "(state x)",
            "(state v 8)",
            "(param k)",
            "(param w 1)",
            "(procedure f () ())",
            "(procedure g (i) ((a)) (set a 1))",
            "(procedure h (i j) ((a) (b 3)) (set (at b i) a) (call g (j) (a)))",
            "(beat (set x (add x (sub 1 (mul k (div (at v 2) 2147483646))))) (loop i 1000 (set (at v (rem i 8)) 0))"
            " (loop i beat) (let a 1) (let a x (set x a) (set a x)) (if (zero x) () ())"
            " (if (not (less (plus beat 1) (minus 3 (times 2 2)))) ((set x 1) (set x 2)) ((set x 3)))"
            " (call f () ()) (call h (1 (rem beat 1000)) (x v)) (if (equal 0 beat) () ((set x 1))))",
        )
        text = "\n".join(lines)
        self.assertEqual(write_program(read_program(text)), text)
        self.assertEqual(write_program(read_program(text.replace(" ", "  \n"))), text)

    def test_smallest_tree(self):
        self.assertEqual(write_program(((), (), (), ())), "(beat)")
        self.assert_round_trip(((), (), (), ()))

    def test_no_other_spaces_and_newlines(self):
        for seed in range(40):
            text = write_program(random_program(seed))
            self.assertNotIn("  ", text)
            self.assertNotIn("( ", text)
            self.assertNotIn(" )", text)
            self.assertFalse(text.endswith("\n"))
            for line in text.split("\n"):
                self.assertRegex(line, r"^\((state|param|procedure|beat)\b.*\)$")

    def test_reading_what_was_written(self):
        for seed in range(150):
            tree = random_program(seed)
            with self.subTest(seed=seed):
                self.assertLessEqual(len(write_program(tree)), MAX_TEXT)
                self.assert_round_trip(tree)

    def test_trees_that_are_no_programs(self):
        self.assert_round_trip(read_program("(state x) (state x) (beat (call x () (x x)) (set y (at y y)))"))
        self.assert_round_trip(read_program("(beat (if " + "(not " * 17 + "(zero x)" + ")" * 17 + " () ()))"))


if __name__ == "__main__":
    unittest.main()
