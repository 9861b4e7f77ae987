"""Points 4 and 87 to 92: marches."""

import copy
import random
import unittest

from countermarch.checking import cells
from countermarch.errors import ArgumentError, ScheduleError, TreeError
from countermarch.field import dot
from countermarch.limits import MAX_BEATS, MAX_FUEL, MAX_KEPT, PRIME
from countermarch.marches import by_directions, march
from countermarch.plain import dual_run, run, run_beat
from countermarch.schedules import judge, least, plan
from countermarch.sweeps import forward, reverse
from countermarch.words import read_program
from oracle import oracle_run
from programs import EVERY_SORT, random_case, random_row

TURN = ("turn",)
SQUARE = read_program("(state x) (param k) (beat (set x (add (mul x x) k)))")
NO_FAULT = (
    # Programs that hardly ever have a fault, with arrays, loops, calls, tests and divisions.
    "(state x) (state v 3) (param k) (param w 2) (procedure f (i) ((p) (q 3)) (set (at q i) (add (mul p k) (at q (rem (plus i 1) 3)))))"
    "(beat (loop i 3 (call f (i) (x v)) (set x (add x (mul (at v i) (at w 1))))) (let z (mul x x) (set x (sub z (at w 0)))))",
    "(state x) (state y) (param k) (beat (if (zero (sub x y)) ((set x (add x k))) ((set y (div (mul x y) (sub x y))))))",
    "(state x) (state y) (beat (set y (add y 1)) (set x (mul x y)))",
    "(state v 8) (beat (set (at v (rem beat 8)) (mul (at v (rem (plus beat 3) 8)) (at v 0))) (set (at v 0) (add (at v 0) 1)))",
    "(state x) (beat)", "(state x) (param k) (beat (set x k))",
    "(state x) (state y) (procedure f (n) ((a) (b)) (set a (add a (mul b b))) (if (less 0 n) ((call f ((minus n 1)) (b a))) ()))"
    "(beat (call f ((rem beat 4)) (x y)) (let t (div 1 3) (set x (mul t x))))",
)


def rows_of(tree, seed):
    numbers = random.Random(seed)
    counts = cells(tree[1]), cells(tree[0]), cells(tree[0])
    return [tuple(numbers.randrange(1, PRIME) for _ in range(count)) for count in counts]


class MarchCase(unittest.TestCase):
    def assert_march(self, tree, params, state, weights, beats, slots, fuel=MAX_FUEL, schedule=None):
        """The march has the plain way's results, and counts that keep the guarantee."""
        found = march(tree, params, state, weights, beats=beats, slots=slots, schedule=schedule, fuel=fuel)
        expected = by_directions(tree, params, state, weights, beats=beats, fuel=fuel)
        self.assertEqual(found[:4], expected)
        self.assertEqual(expected[:2], run(tree, params, state, beats=beats, fuel=fuel))
        kept, again, operations = found[4]
        if found[0] is not None:
            self.assertEqual(found[1:], ((), (), (), (0, 0, 0)))
            return found
        self.assertLessEqual(kept, slots)
        cost = least(beats, slots) if schedule is None else judge(schedule, beats, slots)
        self.assertEqual(again, cost)
        self.assertLessEqual(operations, self.most_operations(tree, params, state, beats, fuel))
        return found

    def most_operations(self, tree, params, state, beats, fuel):
        total = 0
        for beat in range(beats):
            _, state, _, operations, assignments = run_beat(tree, params, state, beat=beat, fuel=fuel)
            total += 5 * operations + assignments
        return total


class TestExamples(MarchCase):
    """Points 87 to 89."""

    def test_example(self):
        # The derivatives of point 47's example: 120 by x and 21 by k.
        found = march(SQUARE, (1,), (3,), (1,), beats=2, slots=1)
        self.assertEqual(found, (None, (101,), (120,), (21,), (1, 1, 16)))
        self.assertEqual([type(part) for part in found], [type(None), tuple, tuple, tuple, tuple])
        self.assertEqual(by_directions(SQUARE, (1,), (3,), (1,), beats=2), (None, (101,), (120,), (21,)))

    def test_no_beats(self):
        for slots in (0, 1, MAX_KEPT):
            for schedule in (None, ()):
                found = march(SQUARE, (1,), (PRIME + 3,), (-1,), beats=0, slots=slots, schedule=schedule)
                self.assertEqual(found, (None, (3,), (PRIME - 1,), (0,), (0, 0, 0)))
        self.assertEqual(by_directions(SQUARE, (1,), (PRIME + 3,), (-1,), beats=0), (None, (3,), (PRIME - 1,), (0,)))

    def test_one_beat(self):
        for slots in range(MAX_KEPT + 1):
            found = march(SQUARE, (1,), (3,), (5,), beats=1, slots=slots)
            self.assertEqual(found, (None, (10,), (30,), (5,), (0, 0, 8)))

    def test_counts(self):
        tree = read_program("(state x) (beat (set x (mul 2 x)))")
        for beats in range(MAX_BEATS + 1):
            for slots in (1, 2, 3, MAX_KEPT):
                found = march(tree, (), (1,), (1,), beats=beats, slots=slots)
                self.assertEqual(found[:4], (None, (2 ** beats % PRIME,), (2 ** beats % PRIME,), ()))
                kept, again, operations = found[4]
                # One operation forward, two in reverse, for each beat.
                self.assertEqual((again, operations), (least(beats, slots), 3 * beats))
                self.assertEqual(kept, len({action[1] for action in plan(beats, slots) if action[0] == "keep"}))
                self.assertLessEqual(kept, slots)

    def test_operations_are_those_of_the_sweeps(self):
        tree = read_program(EVERY_SORT)
        params, state, weights = (6, 7, 8), (3, 4, 5, 1, 2, 3, 4), (1, 2, 3, 4, 5, 6, 7)
        found = self.assert_march(tree, params, state, weights, 4, 2)
        self.assertIsNone(found[0])
        total, bars, states = 0, weights, [state]
        tapes = []
        for beat in range(4):
            _, last, tape, operations, _ = forward(tree, params, states[-1], beat=beat)
            states.append(last)
            tapes.append(tape)
            total += operations
        by_params = (0,) * 3
        for beat in (3, 2, 1, 0):
            result = reverse(tree, params, states[beat + 1], tapes[beat], bars, beat=beat)
            self.assertEqual(result[:2], (None, states[beat]))
            bars, total = result[2], total + result[4]
            by_params = tuple((a + b) % PRIME for a, b in zip(by_params, result[3]))
        self.assertEqual(found[:4], (None, states[-1], bars, by_params))
        self.assertEqual(found[4][2], total)


class TestAgainstThePlainWay(MarchCase):
    """Points 2 to 4 and 89."""

    def test_random_programs(self):
        without_a_fault = 0
        for seed in range(250):
            tree, params, state, _, fuel = random_case(seed)
            with self.subTest(seed=seed):
                weights = random_row(seed + 2, len(state))
                beats, slots = seed % 7, 1 + seed % 3
                found = self.assert_march(tree, params, state, weights, beats, slots, fuel)
                without_a_fault += found[0] is None and beats > 1
        self.assertGreater(without_a_fault, 50)

    def test_programs_of_every_sort(self):
        for number, text in enumerate(NO_FAULT):
            tree = read_program(text)
            params, state, weights = rows_of(tree, number)
            for beats, slots in ((2, 1), (3, 1), (3, 2), (7, 2), (10, 3), (10, 8), (5, 1)):
                with self.subTest(text=text, beats=beats, slots=slots):
                    found = self.assert_march(tree, params, state, weights, beats, slots)
                    self.assertIsNone(found[0])

    def test_many_beats(self):
        for number, text in enumerate(NO_FAULT[:3]):
            tree = read_program(text)
            params, state, weights = rows_of(tree, number)
            for slots in (1, 4, MAX_KEPT):
                found = self.assert_march(tree, params, state, weights, MAX_BEATS, slots)
                self.assertIsNone(found[0])

    def test_by_directions_is_the_plain_way(self):
        for seed in range(60):
            tree, params, state, _, fuel = random_case(seed)
            weights = random_row(seed + 2, len(state))
            found = by_directions(tree, params, state, weights, beats=3, fuel=fuel)
            none, zeros = (0,) * len(params), (0,) * len(state)
            fault, last, _ = oracle_run(tree, params, state, none, zeros, 3, fuel)
            if fault is not None:
                self.assertEqual(found, (fault, (), (), ()))
                continue
            by_state = [self.slope(tree, params, state, none, self.unit(len(state), at), fuel, weights) for at in range(len(state))]
            by_params = [self.slope(tree, params, state, self.unit(len(params), at), zeros, fuel, weights) for at in range(len(params))]
            self.assertEqual(found, (None, last, tuple(by_state), tuple(by_params)))

    def unit(self, size, at):
        return tuple(int(k == at) for k in range(size))

    def slope(self, tree, params, state, param_slopes, slopes, fuel, weights):
        return dot(weights, oracle_run(tree, params, state, param_slopes, slopes, 3, fuel)[2])

    def test_slopes_along_any_direction(self):
        for number, text in enumerate(NO_FAULT):
            tree = read_program(text)
            params, state, weights = rows_of(tree, number)
            _, _, by_state, by_params, _ = march(tree, params, state, weights, beats=6, slots=2)
            for seed in range(3):
                param_slopes, slopes, _ = rows_of(tree, seed + 50)
                found = dual_run(tree, params, state, param_slopes, slopes, beats=6)[2]
                self.assertEqual((dot(by_state, slopes) + dot(by_params, param_slopes)) % PRIME, dot(weights, found))


class TestFaults(MarchCase):
    """Points 12 and 89."""

    def test_each_fault(self):
        for text, fault in (
            ("(state x) (beat (if (equal beat 2) ((set x (div x 0))) ()))", "zero"), ("(state v 2) (beat (set (at v beat) 1))", "index"),
            ("(state x) (procedure f () () (call f () ())) (beat (if (less beat 2) () ((call f () ()))))", "calls"),
            ("(state x) (beat (loop i (times beat 150)))", "fuel"),
        ):
            tree = read_program(text)
            state = (5,) * cells(tree[0])
            beat = 3 if fault == "fuel" else 2
            for slots in (1, 2, 8):
                self.assertIsNone(self.assert_march(tree, (), state, state, beat, slots)[0])
                for beats in (beat + 1, beat + 2, MAX_BEATS):
                    found = self.assert_march(tree, (), state, state, beats, slots)
                    self.assertEqual(found, ((fault, beat), (), (), (), (0, 0, 0)))
                    self.assertEqual(by_directions(tree, (), state, state, beats=beats), ((fault, beat), (), (), ()))

    def test_a_fault_in_the_first_beat(self):
        tree = read_program("(state x) (beat (set x (div 1 x)))")
        self.assertEqual(march(tree, (), (0,), (1,), beats=1, slots=0), (("zero", 0), (), (), (), (0, 0, 0)))

    def test_fuel(self):
        tree = read_program("(state x) (beat (loop i 3 (set x (mul x x))))")
        for fuel in (-5, 0, 5):
            self.assertEqual(self.assert_march(tree, (), (2,), (1,), 3, 1, fuel)[0], ("fuel", 0))
        for fuel in (6, 7, 300, 10 ** 20):
            self.assertIsNone(self.assert_march(tree, (), (2,), (1,), 3, 1, fuel)[0])
        tree = read_program("(state x) (beat (loop i beat (set x (mul x 3))))")
        self.assertEqual(self.assert_march(tree, (), (2,), (1,), 6, 2, 9)[0], ("fuel", 5))
        self.assertIsNone(self.assert_march(tree, (), (2,), (1,), 5, 2, 9)[0])
        self.assertIsNone(march(tree, (), (2,), (1,), beats=MAX_BEATS, slots=3)[0])

    def test_the_schedule_is_judged_even_so(self):
        tree = read_program("(state x) (beat (set x (div 1 0)))")
        with self.assertRaises(ScheduleError):
            march(tree, (), (0,), (1,), beats=2, slots=0)
        with self.assertRaises(ScheduleError):
            march(tree, (), (0,), (1,), beats=2, slots=1, schedule=(TURN,))


class TestSchedules(MarchCase):
    """Point 91, and the counts of point 89."""

    def schedules(self):
        """Schedules for four beats, with the slots that they need, and kept slots."""
        keep, restore, advance = [lambda n, head=head: (head, n) for head in ("keep", "restore", "advance")]
        return (
            ((keep(0), advance(3), TURN, restore(0), advance(2), TURN, restore(0), advance(1), TURN, restore(0), TURN), 1, 1),
            ((keep(0), advance(1), keep(1), advance(1), keep(2), advance(1), TURN, restore(2), TURN, restore(1), TURN, restore(0), TURN), 3, 3),
            ((keep(7), advance(2), keep(3), advance(1), TURN, restore(3), TURN, restore(7), advance(1), TURN, restore(7), TURN), 8, 2),
            ((keep(0), keep(1), advance(1), keep(2), restore(1), advance(1), advance(2), TURN, restore(2), advance(1), TURN, restore(2), TURN,
              restore(0), TURN), 5, 3),
            ((keep(1), advance(3), keep(0), restore(0), TURN, restore(1), keep(0), advance(2), TURN, restore(0), advance(1), keep(0), TURN,
              restore(1), TURN), 2, 2),
            # What is kept behind the front is of no use, but it is kept.
            ((keep(0), advance(3), keep(1), TURN, restore(1), keep(2), restore(0), advance(2), TURN, restore(0), advance(1), TURN,
              restore(0), TURN), 3, 3),
        )

    def test_derivatives_do_not_depend_on_the_schedule(self):
        for number, text in enumerate(NO_FAULT + (EVERY_SORT,)):
            tree = read_program(text)
            params, state, weights = rows_of(tree, number)
            expected = march(tree, params, state, weights, beats=4, slots=2)
            self.assertIsNone(expected[0])
            for schedule, slots, kept in self.schedules():
                with self.subTest(text=text, schedule=schedule):
                    found = self.assert_march(tree, params, state, weights, 4, slots, schedule=schedule)
                    self.assertEqual(found[:4], expected[:4])
                    self.assertEqual(found[4], (kept, judge(schedule, 4, slots), expected[4][2]))

    def test_plans_for_other_slots(self):
        tree = read_program(NO_FAULT[0])
        params, state, weights = rows_of(tree, 3)
        expected = march(tree, params, state, weights, beats=9, slots=1)
        for slots in range(1, MAX_KEPT + 1):
            found = march(tree, params, state, weights, beats=9, slots=slots)
            self.assertEqual((found[:4], found[4][2]), (expected[:4], expected[4][2]))
            self.assertEqual(march(tree, params, state, weights, beats=9, slots=slots, schedule=plan(9, slots)), found)
            self.assertEqual(march(tree, params, state, weights, beats=9, slots=MAX_KEPT, schedule=plan(9, slots)), found)

    def test_random_schedules(self):
        tree = read_program(NO_FAULT[0])
        params, state, weights = rows_of(tree, 4)
        for seed in range(30):
            beats, slots = 1 + seed % 6, 1 + seed % 4
            schedule = self.random_schedule(random.Random(seed), beats, slots)
            expected = march(tree, params, state, weights, beats=beats, slots=1)
            found = self.assert_march(tree, params, state, weights, beats, slots, schedule=schedule)
            self.assertEqual((found[:4], found[4][2]), (expected[:4], expected[4][2]))
            self.assertEqual(found[4][0], len({action[1] for action in schedule if action[0] == "keep"}))

    def random_schedule(self, numbers, beats, slots):
        actions, front, position, kept = [("keep", 0)], beats, 0, {0: 0}
        while front > 0:
            choice = numbers.randint(0, 5)
            if position is None or choice == 0:
                # Slot 0 keeps the first state, so that the run can be finished.
                slot = numbers.choice(sorted(kept))
                actions.append(("restore", slot))
                position = kept[slot]
            elif position == front - 1 and choice > 1:
                actions.append(TURN)
                position, front = None, front - 1
            elif choice == 1 and slots > 1:
                slot = numbers.randrange(1, slots)
                actions.append(("keep", slot))
                kept[slot] = position
            elif position < front - 1:
                count = numbers.randint(1, front - 1 - position)
                actions.append(("advance", count))
                position += count
            elif position >= front:
                actions.append(("restore", 0))
                position = 0
        return tuple(actions)


class TestWeights(MarchCase):
    """Points 1 and 88."""

    def test_weights_of_zero(self):
        for number, text in enumerate(NO_FAULT):
            tree = read_program(text)
            params, state, weights = rows_of(tree, number)
            found = march(tree, params, state, (0,) * len(weights), beats=5, slots=2)
            self.assertEqual(found[2:4], ((0,) * len(state), (0,) * len(params)))
            self.assertEqual(found[1], run(tree, params, state, beats=5)[1])

    def test_sums_and_multiples(self):
        for number, text in enumerate(NO_FAULT):
            tree = read_program(text)
            params, state, first = rows_of(tree, number)
            second = rows_of(tree, number + 90)[2]
            both = tuple(3 * a + b for a, b in zip(first, second))
            one, two, three = [march(tree, params, state, row, beats=5, slots=2)[2:4] for row in (first, second, both)]
            for a, b, c in zip(one, two, three):
                self.assertEqual(c, tuple((3 * x + y) % PRIME for x, y in zip(a, b)))

    def test_each_number_of_the_last_state(self):
        tree = read_program("(state x) (state y) (param k) (beat (set x (mul x k)) (set y (add y x)))")
        # x is 2, 10, 50 and y is 3, 13, 63.
        for weights, by_state, by_params in (((1, 0), (25, 0), (20,)), ((0, 1), (30, 1), (22,)), ((2, 3), (140, 3), (106,))):
            for call in (march, by_directions):
                more = {"slots": 1} if call is march else {}
                found = call(tree, (5,), (2, 3), weights, beats=2, **more)
                self.assertEqual(found[:4], (None, (50, 63), by_state, by_params))


class TestArguments(unittest.TestCase):
    """Points 11, 90 and 92."""

    TREE = read_program("(state x) (state v 2) (param k 2) (beat (set x (add x (at k 0))))")
    GOOD = {"params": (1, 2), "state": (3, 4, 5), "weights": (6, 7, 8), "beats": 2, "slots": 1, "schedule": None}

    def march(self, tree=TREE, **changed):
        given = {**self.GOOD, **changed}
        return march(
            tree, given["params"], given["state"], given["weights"], beats=given["beats"], slots=given["slots"], schedule=given["schedule"]
        )

    def by_directions(self, tree=TREE, **changed):
        given = {**self.GOOD, **changed}
        return by_directions(tree, given["params"], given["state"], given["weights"], beats=given["beats"])

    def assert_refused(self, reason, calls=None, **changed):
        for call in calls or (self.march, self.by_directions):
            with self.subTest(call=call.__name__, **changed):
                with self.assertRaises(ArgumentError) as caught:
                    call(**changed)
                self.assertEqual(caught.exception.reason, reason)

    def test_good_arguments(self):
        self.assertEqual(self.march(), (None, (5, 4, 5), (6, 7, 8), (12, 0), (1, 1, 6)))
        self.assertEqual(self.by_directions(), (None, (5, 4, 5), (6, 7, 8), (12, 0)))
        changed = {"params": [1 + PRIME, 2], "state": [3, 4 - PRIME, 5], "weights": [6, 7 + PRIME ** 2, 8 - PRIME]}
        self.assertEqual(self.march(**changed), self.march())
        self.assertEqual(self.by_directions(**changed), self.by_directions())

    def test_trees(self):
        for tree, path, reason in (
            (None, (), "shape"), (((), (), (), ()), (), "limits"), (read_program("(state x) (beat (set y 1))"), (0, 0), "scope"),
        ):
            for call in (self.march, self.by_directions):
                with self.assertRaises(TreeError) as caught:
                    call(tree=tree, params=None, state=None, weights=None, beats=None, slots=None, schedule=5)
                self.assertEqual((caught.exception.path, caught.exception.reason), (path, reason))

    def test_rows(self):
        for row in (
            None, 1, "abc", (1, True, 3), (1, 2, None), [True, False], ("1", "2"), {1: 2}, (1, 2, 3.0), (), [], (1,), [1, 2, 3, 4], range(3),
            {1, 2, 3}, ((1,), 2), [[1, 2]],
        ):
            for name in ("params", "state", "weights"):
                self.assert_refused(name, **{name: row})
        self.assert_refused("params", params=(1, 2, 3))
        self.assert_refused("state", state=(1, 2))
        self.assert_refused("weights", weights=(1, 2))

    def test_beats_and_slots(self):
        for value in (-1, 10 ** 20, True, False, None, "1", (1,), 1.0):
            self.assert_refused("beats", beats=value)
            self.assert_refused("slots", calls=(self.march,), slots=value)
        self.assert_refused("beats", beats=MAX_BEATS + 1)
        self.assert_refused("slots", calls=(self.march,), slots=MAX_KEPT + 1)
        self.assertIsNone(self.march(beats=MAX_BEATS, slots=MAX_KEPT)[0])
        self.assertIsNone(self.by_directions(beats=MAX_BEATS)[0])

    def test_order(self):
        wrong = {"params": None, "state": (True,) * 3, "weights": 5, "beats": -1, "slots": None, "schedule": []}
        for reason in ("params", "state", "weights", "beats"):
            self.assert_refused(reason, **wrong)
            del wrong[reason]
        self.assert_refused("slots", calls=(self.march,), **wrong)
        self.assert_schedule(-1, "form", schedule=[])

    def assert_schedule(self, number, reason, **changed):
        with self.subTest(**changed):
            with self.assertRaises(ScheduleError) as caught:
                self.march(**changed)
            self.assertEqual((caught.exception.number, caught.exception.reason), (number, reason))

    def test_schedules(self):
        self.assert_schedule(0, "unfinished", beats=2, slots=0)
        self.assert_schedule(0, "unfinished", beats=MAX_BEATS, slots=0)
        self.assert_schedule(-1, "form", schedule=False)
        self.assert_schedule(0, "unfinished", schedule=())
        self.assert_schedule(0, "form", schedule=(None,))
        self.assert_schedule(0, "turn", schedule=(TURN,))
        self.assert_schedule(1, "slot", schedule=(("keep", 0), ("keep", 1)))
        self.assert_schedule(3, "nowhere", schedule=(("keep", 0), ("advance", 1), TURN, TURN))
        self.assert_schedule(0, "done", beats=0, schedule=(TURN,))

    def test_arguments_are_not_changed(self):
        """Point 5."""
        params, state, weights = rows = [1, -2], [3, 4, 5 + PRIME], [6, 7, -8]
        before = copy.deepcopy(rows)
        first = march(self.TREE, params, state, weights, beats=5, slots=2)
        self.assertEqual(march(self.TREE, params, state, weights, beats=5, slots=2), first)
        self.assertEqual(by_directions(self.TREE, params, state, weights, beats=5), first[:4])
        self.assertEqual(rows, before)


if __name__ == "__main__":
    unittest.main()
