"""Points 79 to 86: schedules and papers of least cost."""

import functools
import heapq
import math
import unittest

from countermarch.errors import ArgumentError, PaperError, ScheduleError
from countermarch.limits import MAX_BEATS, MAX_KEPT
from countermarch.schedules import accept_table, judge, least, make_table, plan

TURN = ("turn",)
THREE = (("keep", 0), ("advance", 2), TURN, ("restore", 0), ("advance", 1), TURN, ("restore", 0), TURN)


cost_of = functools.lru_cache(None)(least)


def keep(slot):
    return "keep", slot


def restore(slot):
    return "restore", slot


def advance(count):
    return "advance", count


class ScheduleCase(unittest.TestCase):
    def assert_wrong(self, schedule, beats, slots, number, reason):
        with self.subTest(schedule=schedule, beats=beats, slots=slots):
            with self.assertRaises(ScheduleError) as caught:
                judge(schedule, beats, slots)
            self.assertEqual((caught.exception.number, caught.exception.reason), (number, reason))


class TestJudge(ScheduleCase):
    """Points 79 to 82."""

    def test_examples(self):
        self.assertEqual(judge(THREE, 3, 1), 3)
        self.assert_wrong((TURN,), 2, 1, 0, "turn")

    def test_right_schedules(self):
        self.assertEqual(judge((), 0, 0), 0)
        self.assertEqual(judge((), 0, MAX_KEPT), 0)
        self.assertEqual(judge((TURN,), 1, 0), 0)
        self.assertEqual(judge((keep(0), restore(0), TURN), 1, 1), 0)
        self.assertEqual(judge((keep(0), advance(1), TURN, restore(0), TURN), 2, 1), 1)
        self.assertEqual(judge((keep(1), advance(1), keep(0), advance(1), TURN, restore(0), TURN, restore(1), TURN), 3, 2), 2)
        for slots in range(1, MAX_KEPT + 1):
            self.assertEqual(judge(THREE, 3, slots), 3)

    def test_cost_is_that_of_all_advances(self):
        schedule = (keep(0), advance(1), advance(1), restore(0), advance(2), restore(0), advance(2), TURN, restore(0), advance(1),
                    TURN, restore(0), TURN)
        self.assertEqual(judge(schedule, 3, 1), 7)

    def test_a_full_slot_is_emptied_first(self):
        schedule = (keep(0), advance(1), keep(1), advance(1), TURN, restore(1), TURN, restore(0), keep(1), restore(1), TURN)
        self.assertEqual(judge(schedule, 3, 2), 2)
        # Slot 0 has the position 1 at the end, so the run cannot be finished.
        self.assert_wrong((keep(0), advance(1), keep(0), advance(1), TURN, restore(0), TURN, restore(0), TURN), 3, 1, 8, "turn")

    def test_a_slot_stays_full(self):
        self.assertEqual(judge((keep(0), restore(0), restore(0), advance(1), restore(0), advance(1), TURN, restore(0), TURN), 2, 1), 2)

    def test_the_position_may_be_behind_the_front(self):
        schedule = (keep(0), advance(1), keep(1), advance(1), TURN, restore(1), TURN, restore(1), keep(1), restore(0), TURN)
        self.assertEqual(judge(schedule, 3, 2), 2)
        self.assert_wrong(schedule[:8] + (advance(1),), 3, 2, 8, "beyond")
        self.assert_wrong(schedule[:8] + (TURN,), 3, 2, 8, "turn")

    def test_form(self):
        for action in (
            (), None, 1, True, "turn", "t", ["turn"], ["keep", 0], ("turn", 0), ("turn", None), ("Turn",), ("keep",), ("keep", 0, 0),
            ("keep", -1), ("keep", True), ("keep", False), ("keep", None), ("keep", "0"), ("keep", (0,)), ("keep", 0.0), ("restore",),
            ("restore", -1), ("restore", False), ("restore", "0"), ("restore", 0, 1), ("advance",), ("advance", 0), ("advance", -1),
            ("advance", True), ("advance", None), ("advance", "1"), ("advance", 1, 1), ("advance", 1.0), (None,), (0, 0), (("turn",),),
            ("jump", 1), ([], 0), ({}, 0), ("",), (True, 0), b"turn", {}, ("keep", []),
        ):
            self.assert_wrong((action,), 2, 1, 0, "form")
            self.assert_wrong((keep(0), action), 2, 1, 1, "form")
            # Form is looked at ahead of all else.
            self.assert_wrong((TURN, action), 1, 0, 1, "form")
            self.assert_wrong((action,), 0, 0, 0, "form")

    def test_a_schedule_that_is_no_tuple(self):
        for schedule in (None, [], [TURN], 1, "turn", {}, True, list(THREE), {TURN}):
            self.assert_wrong(schedule, 1, 0, -1, "form")
            self.assert_wrong(schedule, 0, 0, -1, "form")

    def test_done(self):
        for action in (TURN, keep(0), keep(9), restore(0), restore(9), advance(1), advance(99)):
            self.assert_wrong((action,), 0, 1, 0, "done")
            self.assert_wrong((TURN, action), 1, 1, 1, "done")
            self.assert_wrong(THREE + (action,), 3, 1, 8, "done")

    def test_slot(self):
        for slots in range(MAX_KEPT + 1):
            for slot in (slots, slots + 1, 10 ** 20):
                self.assert_wrong((keep(slot),), 1, slots, 0, "slot")
                self.assert_wrong((restore(slot),), 1, slots, 0, "slot")
            if slots > 0:
                self.assertEqual(judge((keep(slots - 1), restore(slots - 1), TURN), 1, slots), 0)
        # A slot that is not there comes ahead of a missing position.
        self.assert_wrong((keep(0), advance(1), TURN, keep(1)), 2, 1, 3, "slot")

    def test_empty(self):
        self.assert_wrong((restore(0),), 2, 1, 0, "empty")
        self.assert_wrong((keep(0), restore(1)), 2, 2, 1, "empty")
        self.assert_wrong((keep(0), advance(1), TURN, restore(1)), 2, 2, 3, "empty")

    def test_nowhere(self):
        start = (keep(0), advance(1), TURN)
        for action in (TURN, keep(0), keep(1), advance(1), advance(99)):
            self.assert_wrong(start + (action,), 2, 2, 3, "nowhere")
        self.assert_wrong((keep(0), advance(2), TURN, advance(5)), 3, 1, 3, "nowhere")

    def test_beyond(self):
        for count in (3, 4, 1000, 10 ** 20):
            self.assert_wrong((advance(count),), 3, 0, 0, "beyond")
        self.assert_wrong((advance(1), advance(2)), 3, 0, 1, "beyond")
        self.assert_wrong((advance(1),), 1, 0, 0, "beyond")
        self.assert_wrong((keep(0), advance(2), TURN, restore(0), advance(2)), 3, 1, 4, "beyond")

    def test_turn(self):
        self.assert_wrong((TURN,), 3, 0, 0, "turn")
        self.assert_wrong((advance(1), TURN), 3, 0, 1, "turn")
        self.assert_wrong((keep(0), advance(2), TURN, restore(0), TURN), 3, 1, 4, "turn")

    def test_unfinished(self):
        self.assert_wrong((), 1, 0, 0, "unfinished")
        self.assert_wrong((), MAX_BEATS, MAX_KEPT, 0, "unfinished")
        for end in range(len(THREE)):
            self.assert_wrong(THREE[:end], 3, 1, end, "unfinished")
        self.assert_wrong((advance(1), TURN), 2, 0, 2, "unfinished")

    def test_the_first_wrong_action(self):
        self.assert_wrong((keep(0), keep(9), restore(9), "x"), 2, 1, 1, "slot")
        self.assert_wrong((keep(0), advance(9), keep(9)), 2, 1, 1, "beyond")


class TestNumbers(unittest.TestCase):
    """The arguments that judge rejects, in all functions."""

    CALLS = (
        lambda beats, slots: judge(THREE, beats, slots), lambda beats, slots: judge(None, beats, slots), least, plan, make_table,
        lambda beats, slots: accept_table(beats, slots, None),
    )

    def assert_refused(self, reason, beats, slots):
        for number, call in enumerate(self.CALLS):
            with self.subTest(call=number, beats=beats, slots=slots):
                with self.assertRaises(ArgumentError) as caught:
                    call(beats, slots)
                self.assertEqual(caught.exception.reason, reason)

    def test_wrong_numbers(self):
        for beats in (-1, MAX_BEATS + 1, 10 ** 20, True, False, None, "1", (1,), 1.0, [], {}):
            self.assert_refused("beats", beats, 1)
            self.assert_refused("beats", beats, -1)
            self.assert_refused("beats", beats, None)
        for slots in (-1, MAX_KEPT + 1, 10 ** 20, True, False, None, "1", (1,), 1.0, [], {}):
            self.assert_refused("slots", 0, slots)
            self.assert_refused("slots", 1, slots)
            self.assert_refused("slots", MAX_BEATS, slots)

    def test_right_numbers(self):
        for beats in (0, 1, MAX_BEATS):
            for slots in (1, MAX_KEPT):
                self.assertEqual(judge(plan(beats, slots), beats, slots), least(beats, slots))


class TestLeast(unittest.TestCase):
    """Points 83 and 84."""

    def test_examples(self):
        self.assertEqual(least(3, 1), 3)
        self.assertEqual(least(3, 2), 2)
        self.assertIsNone(least(2, 0))

    def test_equations(self):
        costs = {(beats, slots): least(beats, slots) for beats in range(MAX_BEATS + 1) for slots in range(MAX_KEPT + 1)}
        for (beats, slots), cost in costs.items():
            if beats < 2:
                self.assertEqual(cost, 0)
                self.assertIs(type(cost), int)
            elif slots == 0:
                self.assertIsNone(cost)
            else:
                parts = [(k, costs[beats - k, slots - 1], costs[k, slots]) for k in range(1, beats)]
                self.assertEqual(cost, min(sum(part) for part in parts if None not in part))

    def test_closed_form(self):
        for beats in range(1, MAX_BEATS + 1):
            for slots in range(1, MAX_KEPT + 1):
                r = next(r for r in range(100) if math.comb(slots + r, slots) >= beats)
                self.assertEqual(least(beats, slots), r * beats - math.comb(slots + r, slots + 1))

    def test_no_schedule_is_cheaper(self):
        """A search through all schedules, for few beats and slots."""
        for beats in range(9):
            for slots in range(4):
                with self.subTest(beats=beats, slots=slots):
                    self.assertEqual(self.search(beats, slots), least(beats, slots))

    def search(self, beats, slots):
        start = (0, beats, (None,) * slots)
        costs, waiting = {start: 0}, [(0, 0, start)]
        while waiting:
            cost, _, (position, front, kept) = heapq.heappop(waiting)
            if front == 0:
                return cost
            for more, following in self.following(position, front, kept):
                if cost + more < costs.get(following, 10 ** 9):
                    costs[following] = cost + more
                    heapq.heappush(waiting, (cost + more, len(costs), following))
        return None

    def following(self, position, front, kept):
        for slot, held in enumerate(kept):
            if held is not None:
                yield 0, (held, front, kept)
            if position is not None:
                yield 0, (position, front, kept[:slot] + (position,) + kept[slot + 1:])
        if position is not None and position + 1 < front:
            yield 1, (position + 1, front, kept)
        if position is not None and position == front - 1:
            yield 0, (None, front - 1, kept)

    def test_plans(self):
        for beats in range(MAX_BEATS + 1):
            for slots in range(MAX_KEPT + 1):
                with self.subTest(beats=beats, slots=slots):
                    if beats >= 2 and slots == 0:
                        with self.assertRaises(ScheduleError) as caught:
                            plan(beats, slots)
                        self.assertEqual((caught.exception.number, caught.exception.reason), (0, "unfinished"))
                    else:
                        schedule = plan(beats, slots)
                        self.assertIs(type(schedule), tuple)
                        self.assertEqual(judge(schedule, beats, slots), least(beats, slots))
        self.assertEqual((plan(0, 0), plan(0, 3), plan(1, 0)), ((), (), (TURN,)))


class TestTables(unittest.TestCase):
    """Points 85 and 86."""

    def assert_wrong(self, beats, slots, table, reason):
        with self.subTest(beats=beats, slots=slots, table=table):
            with self.assertRaises(PaperError) as caught:
                accept_table(beats, slots, table)
            self.assertEqual(caught.exception.reason, reason)

    def changed(self, table, row, entry, value):
        rows = [list(each) for each in table]
        rows[row][entry] = value
        return tuple(tuple(each) for each in rows)

    def splits(self, beats, slots):
        """All splits that reach the least value, by the equations and the closed form."""
        found = {}
        for k in range(1, beats):
            parts = k, cost_of(beats - k, slots - 1), cost_of(k, slots)
            if None not in parts:
                found.setdefault(sum(parts), []).append(k)
        return found[min(found)]

    def test_tables_are_accepted(self):
        for beats in range(MAX_BEATS + 1):
            for slots in (0, 1, 2, 5, MAX_KEPT):
                table = make_table(beats, slots)
                self.assertIsNone(accept_table(beats, slots, table))
                self.assertEqual((type(table), len(table)), (tuple, beats))
                for number, row in enumerate(table):
                    self.assertEqual((type(row), len(row)), (tuple, slots + 1))
                    for empty, entry in enumerate(row):
                        self.assertEqual((type(entry), len(entry)), (tuple, 2))
                        self.assertEqual(entry[0], cost_of(number + 1, empty))
                        self.assertIs(type(entry[1]), int)
                        if number == 0:
                            self.assertEqual(entry, (0, 0))
                        elif empty == 0:
                            self.assertEqual(entry, (None, 0))
                        else:
                            self.assertIn(entry[1], self.splits(number + 1, empty))

    def test_small_tables(self):
        for slots in range(3):
            self.assertEqual(make_table(0, slots), ())
            self.assertEqual(make_table(1, slots), (((0, 0),) * (slots + 1),))
        self.assertEqual(make_table(3, 0), (((0, 0),), ((None, 0),), ((None, 0),)))
        self.assertEqual(make_table(2, 1), (((0, 0), (0, 0)), ((None, 0), (1, 1))))

    def test_other_splits(self):
        others = 0
        for beats, slots in ((12, 3), (9, 2), (40, 4)):
            table = make_table(beats, slots)
            for number in range(1, beats):
                for empty in range(1, slots + 1):
                    cost, _ = table[number][empty]
                    right = self.splits(number + 1, empty)
                    others += len(right) - 1
                    for split in range(-1, number + 4):
                        changed = self.changed(table, number, empty, (cost, split))
                        if split in right:
                            self.assertIsNone(accept_table(beats, slots, changed))
                        else:
                            self.assert_wrong(beats, slots, changed, "entry")
        self.assertGreater(others, 10)

    def test_all_splits_changed_at_once(self):
        table = tuple(
            tuple((cost, self.splits(number + 1, empty)[-1] if number and empty else 0) for empty, (cost, _) in enumerate(row))
            for number, row in enumerate(make_table(20, 4))
        )
        self.assertNotEqual(table, make_table(20, 4))
        self.assertIsNone(accept_table(20, 4, table))

    def test_wrong_entries(self):
        beats, slots = 7, 3
        table = make_table(beats, slots)
        for number, row in enumerate(table):
            for empty, (cost, split) in enumerate(row):
                for other in {0, 1, 2, -1, 10 ** 20, (cost or 0) + 1, (cost or 0) - 1, None} - {cost}:
                    self.assert_wrong(beats, slots, self.changed(table, number, empty, (other, split)), "entry")
                if number == 0 or empty == 0:
                    for other in (1, -1, 2):
                        self.assert_wrong(beats, slots, self.changed(table, number, empty, (cost, other)), "entry")

    def test_entries_that_fit_a_wrong_one(self):
        """A cost that is too small, with all costs that follow from it by the equations."""
        self.assert_wrong(2, 1, (((0, 0), (0, 0)), ((None, 0), (0, 1))), "entry")
        self.assert_wrong(3, 1, (((0, 0), (0, 0)), ((None, 0), (0, 1)), ((None, 0), (2, 2))), "entry")
        self.assert_wrong(1, 0, (((1, 0),),), "entry")
        self.assert_wrong(2, 0, (((0, 0),), ((1, 1),)), "entry")
        self.assert_wrong(2, 0, (((None, 0),), ((None, 0),)), "entry")

    def test_form(self):
        beats, slots = 4, 2
        table = make_table(beats, slots)
        for value in (None, 1, True, "table", [], (), list(table), table[1:], table + table[:1], {}):
            self.assert_wrong(beats, slots, value, "form")
        for number in range(beats):
            row = table[number]
            for value in (None, 1, "row", [], (), list(row), row[1:], row + row[:1], {}, "abc", (1, 2, 3)):
                self.assert_wrong(beats, slots, table[:number] + (value,) + table[number + 1:], "form")
            for empty in range(slots + 1):
                cost, split = row[empty]
                for value in (
                    None, 1, "ab", [], (), (cost,), [cost, split], (cost, split, 0), (str(cost), split), (cost, str(split)), (cost, None),
                    (True, split), (False, split), (cost, True), (cost, False), (0.0, split), (cost, 0.0), ((), split), (cost, ()), {},
                ):
                    self.assert_wrong(beats, slots, self.changed(table, number, empty, value), "form")
        self.assert_wrong(0, 1, [], "form")
        self.assert_wrong(0, 1, ((),), "form")
        self.assertIsNone(accept_table(0, 1, ()))

    def test_form_comes_ahead_of_entries(self):
        table = make_table(4, 2)
        wrong = self.changed(table, 0, 0, (7, 7))
        self.assert_wrong(4, 2, wrong, "entry")
        self.assert_wrong(4, 2, self.changed(wrong, 3, 2, (0, None)), "form")
        self.assert_wrong(4, 2, wrong[:3] + (None,), "form")
        self.assert_wrong(3, 2, wrong, "form")


if __name__ == "__main__":
    unittest.main()
