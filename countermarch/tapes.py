"""Machines that execute the sweeps of tape programs."""

from countermarch.machine import Fault, Machine


class TapeMachine(Machine):
    """A machine over numbers whose cells have bars, with a tape."""

    def __init__(self, program, body, memory, bars, tape, fuel):
        state, params, procedures = program[:3]
        super().__init__((state, params, procedures, body), memory, fuel)
        self.bars = bars
        self.tape = tape

    def execute_tape_statement(self, statement, frame):
        """Execute a statement that only tape programs have."""
        head = statement[0]
        if head == "push":
            self.tape.append(self.evaluate(statement[1], frame))
        elif head == "pop":
            self.execute_pop(statement[1], frame)
        elif head == "mark":
            self.tape.append(1 if self.holds(statement[1], frame) else 0)
        elif head == "ifmark":
            _, first, second = statement
            self.execute(second if self.take_number() == 0 else first, frame)
        else:
            self.execute_down(statement, frame)

    def execute_set(self, statement, frame):
        """Assign a number to a cell or to a bar."""
        _, place, expression = statement
        if is_bar(place):
            number = self.evaluate(expression, frame)
            self.bars[self.find_cell(place[1], place[2], frame)] = number
        else:
            super().execute_set(statement, frame)

    def execute_pop(self, place, frame):
        """Take the last number from the tape into a cell or a bar."""
        changed = self.bars if is_bar(place) else self.memory
        name, index = place[-2:]
        cell = self.find_cell(name, index, frame)
        changed[cell] = self.take_number()

    def execute_down(self, statement, frame):
        """Execute a body once for each integer below the value of the index, the greatest first."""
        _, name, index, body = statement
        for integer in reversed(range(self.evaluate_index(index, frame))):
            self.spend_tick()
            frame.integers[name] = integer
            self.execute(body, frame)

    def take_number(self):
        """Remove the last number of the tape and return it."""
        if not self.tape:
            raise Fault("tape")
        return self.tape.pop()

    def add_cell(self, number):
        """Make a new cell, which holds this number and has the bar 0."""
        super().add_cell(number)
        self.bars.append(0)

    def drop_cell(self):
        """Drop the last cell and its bar."""
        super().drop_cell()
        self.bars.pop()

    def evaluate(self, expression, frame):
        """Return the number that an expression has."""
        if expression[0] == "bar":
            return self.bars[self.find_cell(expression[1], expression[2], frame)]
        return super().evaluate(expression, frame)


def is_bar(place):
    """Tell whether a place is that of a bar."""
    # A variable may be called bar, too, so the first item alone does not tell.
    return len(place) == 3
