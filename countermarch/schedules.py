"""Schedules: how a run is reversed with a limited number of kept states."""

from countermarch.arguments import check_beats
from countermarch.errors import ArgumentError, PaperError, ScheduleError
from countermarch.limits import MAX_KEPT
from countermarch.values import is_between, is_integer


class Judge:
    """Follows a schedule: the front, the position or None, and the positions in the full slots."""

    def __init__(self, beats, slots):
        self.front = beats
        self.slots = slots
        self.position = 0
        self.kept = {}
        self.cost = 0

    def find_reason(self, action):
        """Return the first reason why an action is wrong, or None."""
        if not is_action(action):
            return "form"
        if self.front == 0:
            return "done"
        head = action[0]
        if head in ("keep", "restore") and action[1] >= self.slots:
            return "slot"
        if head == "restore":
            return None if action[1] in self.kept else "empty"
        if self.position is None:
            return "nowhere"
        if head == "advance" and self.position + action[1] >= self.front:
            return "beyond"
        if head == "turn" and self.position != self.front - 1:
            return "turn"
        return None

    def follow(self, action):
        """Take an action that is right."""
        head = action[0]
        if head == "keep":
            self.kept[action[1]] = self.position
        elif head == "restore":
            self.position = self.kept[action[1]]
        elif head == "advance":
            self.position += action[1]
            self.cost += action[1]
        else:
            self.position = None
            self.front -= 1


def judge(schedule, beats, slots):
    """Return the cost of a schedule, or raise ScheduleError for what is wrong with it."""
    check_numbers(beats, slots)
    if not isinstance(schedule, tuple):
        raise ScheduleError(-1, "form")
    judging = Judge(beats, slots)
    for number, action in enumerate(schedule):
        reason = judging.find_reason(action)
        if reason is not None:
            raise ScheduleError(number, reason)
        judging.follow(action)
    if judging.front != 0:
        raise ScheduleError(len(schedule), "unfinished")
    return judging.cost


def least(beats, slots):
    """Return the least cost of all schedules that judge accepts, or None if there is none."""
    check_numbers(beats, slots)
    if beats == 0:
        return 0
    return table_rows(beats, slots)[beats - 1][slots][0]


def plan(beats, slots):
    """Return a schedule of the least cost."""
    check_numbers(beats, slots)
    if beats >= 2 and slots == 0:
        raise ScheduleError(0, "unfinished")
    return tuple(plan_actions(table_rows(beats, slots), beats, slots, slots))


def make_table(beats, slots):
    """Return a table of the least costs, with splits that reach them."""
    check_numbers(beats, slots)
    return tuple(table_rows(beats, slots))


def accept_table(beats, slots, table):
    """Return None if the table is one for these numbers, and raise PaperError otherwise."""
    check_numbers(beats, slots)
    if not has_table_form(beats, slots, table):
        raise PaperError("form")
    for number, row in enumerate(table):
        for empty, entry in enumerate(row):
            if entry not in right_entries(table, number + 1, empty):
                raise PaperError("entry")


def check_numbers(beats, slots):
    """Refuse numbers of beats and of slots that are beyond the limits."""
    check_beats(beats)
    if not is_between(slots, 0, MAX_KEPT):
        raise ArgumentError("slots")


def is_action(value):
    """Tell whether a value has the form of an action."""
    if not isinstance(value, tuple) or not value:
        return False
    if value[0] == "turn":
        return len(value) == 1
    if value[0] not in ("keep", "restore", "advance") or len(value) != 2:
        return False
    return is_integer(value[1]) and value[1] >= (1 if value[0] == "advance" else 0)


def plan_actions(rows, beats, empty, slots):
    """Return the actions that reverse beats from the position, with this many empty slots of all."""
    if beats < 2:
        return [("turn",)] * beats
    slot = slots - empty
    actions = [("keep", slot)]
    # Behind each restore the beats up to the split are left, and the slot holds
    # the position still.
    while beats > 1:
        _, split = rows[beats - 1][empty]
        actions.append(("advance", split))
        actions += plan_actions(rows, beats - split, empty - 1, slots)
        actions.append(("restore", slot))
        beats = split
    actions.append(("turn",))
    return actions


def table_rows(beats, slots):
    """Return the rows of a table."""
    rows = []
    for number in range(1, beats + 1):
        rows.append(tuple([right_entries(rows, number, empty)[0] for empty in range(slots + 1)]))
    return rows


def right_entries(rows, beats, empty):
    """Return the entries (cost, split) that are right here, by the entries of the rows before."""
    if beats == 1:
        return [(0, 0)]
    if empty == 0:
        return [(None, 0)]
    entries = []
    for split in range(1, beats):
        behind, before = rows[beats - split - 1][empty - 1][0], rows[split - 1][empty][0]
        # The beats before the split have an empty slot, so theirs is not None.
        if behind is not None:
            entries.append((split + behind + before, split))
    cost = min(entries)[0]
    return [entry for entry in entries if entry[0] == cost]


def has_table_form(beats, slots, table):
    """Tell whether a value has the form of a table: tuples of tuples of pairs."""
    if not isinstance(table, tuple) or len(table) != beats:
        return False
    for row in table:
        if not isinstance(row, tuple) or len(row) != slots + 1:
            return False
        if not all([has_entry_form(entry) for entry in row]):
            return False
    return True


def has_entry_form(entry):
    """Tell whether a value is a pair of a cost, which may be None, and a split."""
    if not isinstance(entry, tuple) or len(entry) != 2:
        return False
    cost, split = entry
    return (cost is None or is_integer(cost)) and is_integer(split)
