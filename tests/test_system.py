"""Points 93 to 98: the system."""

import copy
import unittest

from countermarch.adjoint import make_adjoint
from countermarch.code import check_code, run_forward, run_reverse, translate
from countermarch.errors import ArgumentError, CommandError, CountermarchError, TextError, TreeError
from countermarch.field import dot
from countermarch.limits import MAX_BEATS, MAX_KEPT, MAX_TEXT, PRIME
from countermarch.marches import by_directions, march
from countermarch.plain import dual_run, run
from countermarch.schedules import judge, least, plan
from countermarch.sweeps import forward, reverse
from countermarch.system import Session, agrees, build, refute, slope
from countermarch.words import read_program, write_program
from programs import EVERY_SORT, random_program

LAST = PRIME - 1
SQUARE = "(state x) (param k) (beat (set x (add (mul x x) k)))"
TWO = "(state x) (state v 2) (param k) (param w 2) (beat (set x (mul x k)) (set (at v 1) (add x (at w 0))))"
NO_PARAMS = "(state x) (beat (set x (mul 3 x)))"
FAULTY = "(state x) (param k) (beat (set x (sub x 1)) (set x (div (mul x x) x)))"


class TestBuild(unittest.TestCase):
    """Point 93."""

    def test_right_texts(self):
        for text in (SQUARE, TWO, NO_PARAMS, FAULTY, EVERY_SORT, "(state x)(beat)"):
            built = build(text)
            tree = read_program(text)
            self.assertIs(type(built), tuple)
            self.assertEqual(built[:2], (tree, make_adjoint(tree)))
            self.assertEqual(built[1][0], tree)
            self.assertIsNone(check_code(built[2], tree))

    def test_the_code(self):
        tree, _, code = build(EVERY_SORT)
        params, state = (6, 7, 8), (3, 4, 5, 1, 2, 3, 4)
        found = run_forward(code, tree, params, state, beat=1)
        self.assertEqual(found, forward(tree, params, state, beat=1))
        _, last, tape, _, _ = found
        self.assertEqual(
            run_reverse(code, tree, params, last, tape, state, beat=1), reverse(tree, params, last, tape, state, beat=1)
        )
        for seed in range(20):
            tree = random_program(seed)
            if len(write_program(tree)) <= MAX_TEXT:
                self.assertEqual(build(write_program(tree)), (tree, make_adjoint(tree), translate(tree)))

    def test_texts_that_are_refused(self):
        for text, at in (
            ("", 0), ("(state x)", 9), ("(state x) (beat", 15), ("(state x) (beat))", 16), ("(state x) (beat (set y 1)) x", 27),
            ("(state x) (beat (set y\t1))", 22), (" " * (MAX_TEXT + 1), 0), ("(state x) (beat (fly))", 17), ("(beat) (state x)", 8),
        ):
            with self.subTest(text=text[:40]):
                with self.assertRaises(TextError) as caught:
                    build(text)
                self.assertEqual(caught.exception.at, at)

    def test_trees_that_are_refused(self):
        for text, path, reason in (
            ("(beat)", (), "limits"), ("(state x) (state x) (beat)", (), "names"), ("(state x) (beat (set y 1))", (0, 0), "scope"),
            ("(state x) (beat (set (at x 0) 1))", (0, 0), "size"), ("(state x) (param k) (beat (set x 1) (set k 1))", (0, 1), "assigned"),
            ("(state x) (procedure f () ()) (beat (call f (1) ()))", (1, 0), "call"),
        ):
            with self.subTest(text=text):
                with self.assertRaises(TreeError) as caught:
                    build(text)
                self.assertEqual((caught.exception.path, caught.exception.reason), (path, reason))


class PaperCase(unittest.TestCase):
    """A program with its gradient."""

    TEXT, PARAMS, STATE, WEIGHTS, BEATS = TWO, (5, 6, 7), (2, 3, 4), (1, 10, 100), 2
    # x is 2, 10, 50 and the second cell of v is 4, 16, 56.
    GRADIENT = ((25 + 2500, 10, 0), (20 + 2000, 100, 0))

    def directions(self):
        for at in range(6):
            row = tuple(int(k == at) for k in range(6))
            yield row[:3], row[3:]

    def slope(self, direction, **changed):
        given = {"text": self.TEXT, "params": self.PARAMS, "state": self.STATE, "weights": self.WEIGHTS, "beats": self.BEATS, **changed}
        return slope(*given.values(), direction)

    def agrees(self, gradient, direction, **changed):
        given = {"text": self.TEXT, "params": self.PARAMS, "state": self.STATE, "weights": self.WEIGHTS, "beats": self.BEATS, **changed}
        return agrees(*given.values(), gradient, direction)

    def refute(self, gradient, **changed):
        given = {"text": self.TEXT, "params": self.PARAMS, "state": self.STATE, "weights": self.WEIGHTS, "beats": self.BEATS, **changed}
        return refute(*given.values(), gradient)


class TestPapers(PaperCase):
    """Points 94 and 95."""

    def test_slope(self):
        for direction, derivative in zip(self.directions(), self.GRADIENT[0] + self.GRADIENT[1]):
            self.assertEqual(self.slope(direction), derivative)
        self.assertEqual(self.slope(((0, 0, 0), (0, 0, 0))), 0)
        self.assertEqual(self.slope(((1, 2, 3), (4, 5, 6))), 2525 + 20 + 4 * 2020 + 500)
        self.assertEqual(self.slope(((LAST, 0, 0), (0, 0, 0))), PRIME - 2525)

    def test_slope_is_that_of_dual_run(self):
        for beats in (0, 1, 5):
            for direction in (((1, 2, 3), (4, 5, 6)), ((LAST, 0, 7), (1, 1, 1))):
                tree = read_program(self.TEXT)
                found = dual_run(tree, self.PARAMS, self.STATE, direction[1], direction[0], beats=beats)[2]
                self.assertEqual(self.slope(direction, beats=beats), dot(self.WEIGHTS, found))

    def test_no_beats(self):
        self.assertEqual(self.slope(((1, 2, 3), (4, 5, 6)), beats=0), 321)
        self.assertIs(self.agrees(((1, 10, 100), (0, 0, 0)), ((1, 2, 3), (4, 5, 6)), beats=0), True)
        self.assertIsNone(self.refute(((1, 10, 100), (0, 0, 0)), beats=0))

    def test_right_gradients(self):
        for direction in list(self.directions()) + [((1, 2, 3), (4, 5, 6)), ((0, 0, 0), (0, 0, 0)), ((LAST,) * 3, (7,) * 3)]:
            self.assertIs(self.agrees(self.GRADIENT, direction), True)
        self.assertIsNone(self.refute(self.GRADIENT))

    def test_each_cell_changed_alone(self):
        for at, refuting in enumerate(self.directions()):
            for change in (1, LAST):
                row = list(self.GRADIENT[0] + self.GRADIENT[1])
                row[at] = (row[at] + change) % PRIME
                wrong = tuple(row[:3]), tuple(row[3:])
                self.assertEqual(self.refute(wrong), refuting)
                for direction in self.directions():
                    self.assertIs(self.agrees(wrong, direction), direction != refuting)
                self.assertIs(self.agrees(wrong, ((0, 0, 0), (0, 0, 0))), True)

    def test_the_first_direction(self):
        directions = list(self.directions())
        for first in range(6):
            row = tuple(number + (at >= first) for at, number in enumerate(self.GRADIENT[0] + self.GRADIENT[1]))
            self.assertEqual(self.refute((row[:3], row[3:])), directions[first])
        # Two wrong numbers that make up for each other in one direction.
        wrong = (2526, 9, 0), self.GRADIENT[1]
        self.assertIs(self.agrees(wrong, ((1, 1, 0), (0, 0, 0))), True)
        self.assertEqual(self.refute(wrong), directions[0])

    def test_gradients_of_marches(self):
        for text in (TWO, SQUARE, NO_PARAMS, EVERY_SORT):
            tree = read_program(text)
            counts = {TWO: (3, 3), SQUARE: (1, 1), NO_PARAMS: (1, 0), EVERY_SORT: (7, 3)}[text]
            state, params = tuple(range(2, 2 + counts[0])), tuple(range(3, 3 + counts[1]))
            _, _, by_state, by_params, _ = march(tree, params, state, state, beats=4, slots=2)
            case = {"text": text, "params": params, "state": state, "weights": state, "beats": 4}
            self.assertIsNone(self.refute((by_state, by_params), **case))
            wrong = (by_state[:-1] + ((by_state[-1] + 1) % PRIME,), by_params)
            last = (0,) * (counts[0] - 1) + (1,), (0,) * counts[1]
            self.assertEqual(self.refute(wrong, **case), last)
            self.assertIs(self.agrees(wrong, last, **case), False)
            self.assertIs(self.agrees((by_state, by_params), last, **case), True)

    def test_faults(self):
        case = {"text": FAULTY, "params": (0,), "state": (3,), "weights": (1,)}
        gradient = direction = ((1,), (0,))
        self.assertIsNone(self.refute(gradient, **case, beats=2))
        for beats in (3, 4, MAX_BEATS):
            self.assertEqual(self.slope(direction, **case, beats=beats), ("zero", 2))
            self.assertEqual(self.agrees(gradient, direction, **case, beats=beats), ("zero", 2))
            self.assertEqual(self.refute(gradient, **case, beats=beats), ("zero", 2))
            self.assertEqual(self.refute(((0,), (7,)), **case, beats=beats), ("zero", 2))
        case["text"] = "(state x) (param k) (beat (loop i 1000))"
        self.assertEqual(self.slope(direction, **case, beats=1), ("fuel", 0))
        self.assertEqual(self.slope(direction, **case, beats=0), 1)

    def test_rows_as_arguments(self):
        changed = {"params": [5, 6 + PRIME, 7], "state": [2 - PRIME, 3, 4], "weights": [1, 10, 100 + PRIME ** 2]}
        before = copy.deepcopy(changed)
        self.assertEqual(self.slope(((1, 2, 3), (4, 5, 6)), **changed), self.slope(((1, 2, 3), (4, 5, 6))))
        self.assertIs(self.agrees(self.GRADIENT, ((1, 2, 3), (4, 5, 6)), **changed), True)
        self.assertIsNone(self.refute(self.GRADIENT, **changed))
        self.assertEqual(changed, before)


class TestPaperArguments(PaperCase):
    """Point 96."""

    NO_PAIRS = (
        None, 1, True, "ab", (), ((0, 0, 0),), ((0, 0, 0), (0, 0, 0), (0, 0, 0)), [(0, 0, 0), (0, 0, 0)], ([0, 0, 0], (0, 0, 0)),
        ((0, 0, 0), [0, 0, 0]), ((0, 0), (0, 0, 0)), ((0, 0, 0), (0, 0)), ((0, 0, 0, 0), (0, 0, 0)), ((0, 0, 0), (0, 0, 0, 0)),
        ((-1, 0, 0), (0, 0, 0)), ((0, 0, 0), (0, 0, -1)), ((PRIME, 0, 0), (0, 0, 0)), ((0, 0, 0), (0, PRIME, 0)), ((True, 0, 0), (0, 0, 0)),
        ((0, 0, 0), (0, 0, False)), ((None, 0, 0), (0, 0, 0)), (("0", 0, 0), (0, 0, 0)), ((0.0, 0, 0), (0, 0, 0)), (None, (0, 0, 0)),
        ((0, 0, 0), None), ((), ()), {0: 1, 1: 2}, ("abc", "abc"), (0, 0, 0, 0, 0, 0), ((0, 0, 0), (0, 0, (0,))),
    )
    ZERO = ((0, 0, 0), (0, 0, 0))

    def calls(self):
        return (
            lambda gradient=self.ZERO, direction=self.ZERO, **changed: self.slope(direction, **changed),
            lambda gradient=self.ZERO, direction=self.ZERO, **changed: self.agrees(gradient, direction, **changed),
            lambda gradient=self.ZERO, direction=self.ZERO, **changed: self.refute(gradient, **changed),
        )

    def assert_refused(self, reason, numbers=(0, 1, 2), **changed):
        for number in numbers:
            with self.subTest(call=number, **changed):
                with self.assertRaises(ArgumentError) as caught:
                    self.calls()[number](**changed)
                self.assertEqual(caught.exception.reason, reason)

    def test_pairs(self):
        for pair in self.NO_PAIRS:
            self.assert_refused("gradient", (1, 2), gradient=pair)
            self.assert_refused("direction", (0, 1), direction=pair)
        for pair in (((0, LAST, 1), (LAST, 0, 5)), self.ZERO):
            self.assertIsInstance(self.slope(pair), int)
            self.assertIsInstance(self.agrees(pair, pair), bool)
            self.assertIsInstance(self.refute(pair), tuple)

    def test_a_program_without_parameters(self):
        case = {"text": NO_PARAMS, "params": (), "state": (2,), "weights": (1,)}
        self.assertEqual(self.slope(((1,), ()), **case), 9)
        self.assertIsNone(self.refute(((9,), ()), **case))
        self.assertEqual(self.refute(((8,), ()), **case), ((1,), ()))
        self.assert_refused("gradient", (1, 2), gradient=((9,),), direction=((1,), ()), **case)
        self.assert_refused("gradient", (1, 2), gradient=((9,), (0,)), direction=((1,), ()), **case)

    def test_rows(self):
        for row in (None, 1, "abc", (1, True, 3), (1, 2), (1, 2, 3, 4), (1, 2, None), {1: 2}, (1.0, 2, 3)):
            for name in ("params", "state", "weights"):
                self.assert_refused(name, **{name: row})
        for beats in (-1, MAX_BEATS + 1, True, None, "1"):
            self.assert_refused("beats", beats=beats)

    def test_texts(self):
        for call in self.calls():
            with self.assertRaises(TextError) as caught:
                call(text="(state x) (beat", params=None)
            self.assertEqual(caught.exception.at, 15)
            with self.assertRaises(TreeError) as caught:
                call(text="(state x) (beat (set y 1))", params=None)
            self.assertEqual((caught.exception.path, caught.exception.reason), ((0, 0), "scope"))

    def test_order(self):
        wrong = {"params": None, "state": 5, "weights": (), "beats": -1, "gradient": None, "direction": None}
        for reason in ("params", "state", "weights", "beats"):
            self.assert_refused(reason, **wrong)
            del wrong[reason]
        self.assert_refused("gradient", (1, 2), **wrong)
        self.assert_refused("direction", (0,), **wrong)
        del wrong["gradient"]
        self.assert_refused("direction", (0, 1), **wrong)

    def test_arguments_come_ahead_of_faults(self):
        case = {"text": FAULTY, "params": (0,), "state": (1,), "weights": (1,), "gradient": ((1,), (0,)), "direction": ((1,), (0,))}
        self.assert_refused("gradient", (1, 2), **{**case, "gradient": None})
        self.assert_refused("direction", (0, 1), **{**case, "direction": None})


class SessionCase(unittest.TestCase):
    def session(self, text=SQUARE, *lines):
        session = Session()
        session.load(text)
        for line in lines:
            session.answer(line)
        return session

    def assert_answers(self, session, line, *answers):
        with self.subTest(line=line):
            found = session.answer(line)
            self.assertIs(type(found), list)
            self.assertEqual(found, list(answers))

    def assert_refused(self, session, *lines):
        """The lines are refused, and nothing changes."""
        shown = ("run 0", "run 3", "gradient 3 2", "check 3 2")
        before = [copy.deepcopy(session).answer(line) for line in shown] if session.loaded else None
        for line in lines:
            with self.subTest(line=line):
                answers = list(session)
                with self.assertRaises(CommandError) as caught:
                    session.answer(line)
                self.assertEqual(caught.exception.line, line)
                self.assertEqual((list(session), len(session)), (answers, len(answers)))
        if session.loaded:
            self.assertEqual([copy.deepcopy(session).answer(line) for line in shown], before)


class TestAnswers(SessionCase):
    """Point 97: right lines."""

    def test_rows(self):
        session = self.session(TWO)
        self.assert_answers(session, "run 0", "state 0 0 0")
        self.assert_answers(session, "state 2 3 4", "ok")
        self.assert_answers(session, "params 5 6 7", "ok")
        self.assert_answers(session, "weights 1 10 100", "ok")
        self.assert_answers(session, "run 0", "state 2 3 4")
        self.assert_answers(session, "run 2", "state 50 3 56")
        self.assert_answers(session, f"state {LAST} 0 {LAST}", "ok")
        self.assert_answers(session, "run 0", f"state {LAST} 0 {LAST}")

    def test_gradient(self):
        session = self.session(TWO, "state 2 3 4", "params 5 6 7", "weights 1 10 100")
        self.assert_answers(
            session, "gradient 2 1", "loss 5680", "state 2525 10 0", "params 2020 100 0", "kept 1 again 1 operations 16"
        )
        self.assert_answers(session, "gradient 0 1", "loss 432", "state 1 10 100", "params 0 0 0", "kept 0 again 0 operations 0")
        for beats in range(0, 12, 3):
            for slots in (1, 2, MAX_KEPT):
                found = march(read_program(TWO), (5, 6, 7), (2, 3, 4), (1, 10, 100), beats=beats, slots=slots)
                _, last, by_state, by_params, counts = found
                self.assert_answers(
                    session, f"gradient {beats} {slots}", f"loss {dot((1, 10, 100), last)}", "state " + " ".join(map(str, by_state)),
                    "params " + " ".join(map(str, by_params)), "kept {} again {} operations {}".format(*counts),
                )
                self.assertEqual(found[:4], by_directions(read_program(TWO), (5, 6, 7), (2, 3, 4), (1, 10, 100), beats=beats))

    def test_plan(self):
        session = self.session()
        self.assert_answers(session, "plan 0 1", "least 0")
        self.assert_answers(session, "plan 1 1", "least 0", "turn")
        for beats in (2, 5, 17, MAX_BEATS):
            for slots in (1, 3, MAX_KEPT):
                answers = session.answer(f"plan {beats} {slots}")
                self.assertEqual(answers[0], f"least {least(beats, slots)}")
                self.assertEqual(answers[1:], [" ".join(map(str, action)) for action in plan(beats, slots)])
                words = [answer.split(" ") for answer in answers[1:]]
                schedule = tuple((word,) + tuple(int(number) for number in numbers) for word, *numbers in words)
                self.assertEqual(judge(schedule, beats, slots), least(beats, slots))

    def test_check(self):
        session = self.session(EVERY_SORT, "state 3 4 5 1 2 3 4", "params 6 7 8", "weights 1 2 3 4 5 6 7")
        for line in ("check 0 1", "check 1 1", "check 5 1", "check 5 8", "check 2 2"):
            self.assert_answers(session, line, "agrees")

    def test_a_gradient_that_is_refuted(self):
        session = self.session(SQUARE, "state 3", "weights 1")
        self.assert_answers(session, "check 2 1", "agrees")
        # With the code of another program, the march goes astray.
        session.code = build("(state x) (param k) (beat (set x (add (mul x 2) k)))")[2]
        self.assert_answers(session, "check 2 1", "refuted")

    def test_faults(self):
        session = self.session(FAULTY, "state 3", "weights 1")
        self.assert_answers(session, "run 2", "state 1")
        for line in ("run 3", "run 40", "gradient 3 1", "gradient 40 8", "check 3 1", "check 40 8"):
            self.assert_answers(session, line, "fault zero beat 2")
        self.assert_answers(session, "gradient 2 1", "loss 1", "state 1", "params 0", "kept 1 again 1 operations 24")
        for text, fault in (
            ("(state x) (beat (loop i 1000))", "fuel beat 0"), ("(state v 3) (beat (set (at v beat) 1))", "index beat 3"),
            ("(state x) (procedure f () () (call f () ())) (beat (if (less beat 1) () ((call f () ()))))", "calls beat 1"),
        ):
            session.load(text)
            for line in ("run 9", "gradient 9 2", "check 9 2"):
                self.assert_answers(session, line, f"fault {fault}")

    def test_a_program_without_parameters(self):
        session = self.session(NO_PARAMS)
        self.assert_answers(session, "params", "ok")
        self.assert_answers(session, "state 2", "ok")
        self.assert_answers(session, "weights 5", "ok")
        self.assert_answers(session, "gradient 2 1", "loss 90", "state 45", "params", "kept 1 again 1 operations 6")
        self.assert_answers(session, "check 2 1", "agrees")
        self.assert_refused(session, "params 0", "params ", "state", "weights")

    def test_the_greatest_numbers(self):
        session = self.session()
        self.assert_answers(session, f"params {LAST}", "ok")
        self.assert_answers(session, f"run {MAX_BEATS}", f"state {run(read_program(SQUARE), (-1,), (0,), beats=MAX_BEATS)[1][0]}")
        self.assertEqual(session.answer(f"plan {MAX_BEATS} {MAX_KEPT}")[0], f"least {least(MAX_BEATS, MAX_KEPT)}")
        self.assert_answers(session, f"check {MAX_BEATS} {MAX_KEPT}", "agrees")


class TestWrongLines(SessionCase):
    """Point 97: CommandError."""

    LINES = (
        "", " ", "  ", "x", "ok", "load", "quit", "fuel 3", "run", "run ", " run 1", "run 1 ", "run  1", "run 1 1", "run 1 2 3", "Run 1",
        "RUN 1", "run\t1", "run 1\n", "\nrun 1", "run,1", "run -1", "run +1", "run 01", "run 00", "run 1.0", "run one", "run 41", "run 100",
        "run 1000000000", "run 10000000000", "run 00000000001", "run 0x1", "run 1_0", "run \u0663", "run \u00b2", "run \uff11",
        "gradient", "gradient 1", "gradient 1 1 1", "gradient 1 0", "gradient 1 9", "gradient 41 1", "gradient 1 -1", "gradient  1 1",
        "gradient 1  1", "gradient 1 01", "gradient 1 1 ", "gradient x 1", "gradient 1 x", "Gradient 1 1", "gradient 1,1", "gradient 0 0",
        "plan", "plan 1", "plan 1 1 1", "plan 1 0", "plan 1 9", "plan 41 1", "plan 0 0", "plan 01 1", "plan 1 1 ", " plan 1 1", "plans 1 1",
        "check", "check 1", "check 1 1 1", "check 1 0", "check 1 9", "check 41 1", "check 1 +1", "check 1  1", "checK 1 1",
        "params", "params ", "params 1 2", "params  1", "params 1 ", " params 1", "params x", "params -1", "params +1", "params 01",
        f"params {PRIME}", "params 2147483648", "params 9999999999", "params 10000000000", "params 00000000001", "params 1.0", "Params 1",
        "param 1", "params\t1", "params 1\n", "state", "state 1 2", f"state {PRIME}", "state 01", "state -0", "state  1", "State 1",
        "weights", "weights 1 2", f"weights {PRIME}", "weights 00", "weights 1 ", "weight 1", "keep 0", "turn", "restore 0", "advance 1",
        "1", "1 run", "loaded", "answer", "kept 1", "rows", "tree",
    )

    def test_behind_a_load(self):
        self.assert_refused(self.session(SQUARE, "params 1", "state 3", "weights 5"), *self.LINES)
        self.assert_refused(self.session(), *self.LINES)

    def test_ahead_of_a_load(self):
        session = Session()
        self.assert_refused(session, *self.LINES)
        self.assert_refused(
            session, "run 0", "run 1", "plan 1 1", "check 1 1", "gradient 1 1", "params", "params 1", "state 1", "weights 1", "state", "weights"
        )
        self.assertEqual((session.loaded, len(session)), (False, 0))

    def test_rows_of_another_length(self):
        session = self.session(TWO, "state 2 3 4", "params 5 6 7", "weights 1 10 100")
        for word in ("state", "params", "weights"):
            self.assert_refused(session, *[word + " 1" * count for count in (0, 1, 2, 4, 5, 40)])
            self.assert_refused(session, *[f"{word} {row}" for row in (f"1 2 {PRIME}", f"{PRIME} 1 2", "1 2 x", "1 02 3", "1 2 -3", "1  2 3")])

    def test_command_error(self):
        self.assertTrue(issubclass(CommandError, CountermarchError))
        with self.assertRaises(ValueError):
            Session().answer("run 1")


class TestSessions(SessionCase):
    """Points 97 and 98."""

    def test_an_empty_session(self):
        session = Session()
        self.assertIs(session.loaded, False)
        self.assertEqual((len(session), list(session)), (0, []))

    def test_loaded(self):
        session = Session()
        session.load(SQUARE)
        self.assertIs(session.loaded, True)
        self.assertEqual(len(session), 0)

    def test_all_numbers_are_zero_behind_a_load(self):
        session = self.session(TWO)
        for line in ("run 0", "gradient 0 1"):
            self.assertEqual(session.answer(line)[-1 if line == "run 0" else 1], "state 0 0 0")
        self.assertEqual(session.answer("gradient 3 1")[0], "loss 0")
        session.answer("state 2 3 4")
        session.answer("params 5 6 7")
        session.answer("weights 1 10 100")
        for text in (TWO, SQUARE, TWO):
            session.load(text)
            zeros = " 0 0 0" if text == TWO else " 0"
            self.assert_answers(session, "run 3", "state" + zeros)
            self.assertEqual(session.answer("gradient 3 1")[:3], ["loss 0", "state" + zeros, "params" + zeros])

    def test_a_second_program(self):
        session = self.session(TWO, "state 2 3 4")
        session.load(SQUARE)
        self.assert_refused(session, "state 2 3 4", "params 1 2 3")
        self.assert_answers(session, "state 3", "ok")
        self.assert_answers(session, "params 1", "ok")
        self.assert_answers(session, "weights 1", "ok")
        self.assert_answers(session, "gradient 2 1", "loss 101", "state 120", "params 21", "kept 1 again 1 operations 16")

    def test_a_load_that_is_refused(self):
        session = self.session(SQUARE, "state 3", "params 1", "weights 1")
        answers = list(session)
        for text, error in (("(state x) (beat", TextError), ("(state x) (beat (set y 1))", TreeError), ("", TextError), ("(beat)", TreeError)):
            with self.assertRaises(error):
                session.load(text)
            self.assertIs(session.loaded, True)
            self.assertEqual(list(session), answers)
            self.assertEqual(copy.deepcopy(session).answer("gradient 2 1"), ["loss 101", "state 120", "params 21", "kept 1 again 1 operations 16"])
        empty = Session()
        with self.assertRaises(TextError):
            empty.load("(state x)")
        self.assertIs(empty.loaded, False)
        self.assert_refused(empty, "run 0")

    def test_length_and_iteration(self):
        session = Session()
        session.load(SQUARE)
        expected = []
        for line in ("state 3", "run 1", "weights 1", "gradient 2 1", "plan 3 1", "check 1 1", "plan 0 1"):
            answers = session.answer(line)
            expected += answers
            self.assertEqual((len(session), list(session)), (len(expected), expected))
            with self.assertRaises(CommandError):
                session.answer("run 99")
        self.assertEqual(expected[:3], ["ok", "state 9", "ok"])
        self.assertEqual(len(expected), 3 + 4 + (1 + len(plan(3, 1))) + 1 + 1)
        session.load(TWO)
        self.assertEqual((len(session), list(session)), (len(expected), expected))
        self.assertEqual([answer for answer in session], expected)

    def test_the_list_of_answers_is_not_the_session_s(self):
        session = self.session()
        answers = session.answer("run 1")
        answers.append("more")
        answers[0] = "changed"
        self.assertEqual((len(session), list(session)), (1, ["state 0"]))
        self.assert_answers(session, "run 1", "state 0")

    def test_sessions_are_apart(self):
        first, second = self.session(SQUARE), self.session(TWO)
        first.answer("state 3")
        self.assertEqual((len(first), len(second)), (1, 0))
        self.assert_answers(second, "run 0", "state 0 0 0")
        third = Session()
        self.assertEqual((third.loaded, len(third)), (False, 0))

    def test_methods_stand_in_the_class_itself(self):
        for name in ("load", "answer", "loaded", "__len__", "__iter__", "__init__"):
            self.assertIn(name, vars(Session))


if __name__ == "__main__":
    unittest.main()
