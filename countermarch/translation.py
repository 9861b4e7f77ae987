"""Translating tape programs into code."""

from countermarch.tapes import is_bar


def translate_tape(tape):
    """Return the code of a tape program."""
    state, params, procedures, forward_beat, reverse_beat = tape
    numbers = {procedure[0]: number for number, procedure in enumerate(procedures)}
    bodies = []
    for _, integers, references, body in procedures:
        bodies.append(translate_body(body, references + params, integers, numbers))
    for body in (forward_beat, reverse_beat):
        bodies.append(translate_body(body, state + params, (), numbers))
    return tuple(bodies)


def translate_body(body, variables, integers, numbers):
    """Return the code of a body; the numbers are those of the bodies of procedures."""
    writer = BodyWriter(variables, integers, numbers)
    writer.write_body(body)
    writer.write("return")
    return writer.register_count, writer.variable_count, tuple(writer.instructions)


class BodyWriter:
    """Writes the instructions of one body."""

    def __init__(self, variables, integers, numbers):
        self.variables = {name: number for number, (name, _) in enumerate(variables)}
        self.registers = {name: number for number, name in enumerate(integers)}
        self.variable_count = len(variables)
        self.register_count = len(integers)
        self.numbers = numbers
        self.instructions = []

    def write(self, *instruction):
        """Write an instruction."""
        self.instructions.append(instruction)

    def write_jump(self):
        """Write an instruction that send_here makes a jump or a branch; return its number."""
        self.write("jump", 0)
        return len(self.instructions) - 1

    def send_here(self, head, at):
        """Let the jump or branch with this number continue at the next instruction."""
        self.instructions[at] = (head, len(self.instructions))

    def new_register(self):
        """Return the number of a new register."""
        self.register_count += 1
        return self.register_count - 1

    def write_body(self, body):
        """Write the statements of a body."""
        for statement in body:
            self.write_statement(statement)

    def write_statement(self, statement):
        """Write a statement."""
        head = statement[0]
        if head == "set":
            self.write_set(statement)
        elif head == "let":
            self.write_let(statement)
        elif head == "loop":
            self.write_loop(statement)
        elif head == "down":
            self.write_down(statement)
        elif head in ("if", "ifmark"):
            self.write_choice(statement)
        elif head == "call":
            self.write_call(statement)
        else:
            self.write_tape_access(statement)

    def write_set(self, statement):
        """Write the assignment of a number to a cell or to a bar."""
        _, place, expression = statement
        name, index = place[-2:]
        self.write_expression(expression)
        self.write_subscript(index)
        if is_bar(place):
            self.write("store_bar", self.variables[name], index is not None)
        else:
            # An index that the array does not have is found ahead of the tick:
            # the push of the old number, in front of the set, has found it.
            self.write("tick")
            self.write("store", self.variables[name], index is not None)

    def write_let(self, statement):
        """Write a body with a new local scalar."""
        _, name, expression, body = statement
        self.write_expression(expression)
        number = self.variable_count
        self.variable_count += 1
        self.variables[name] = number
        self.write("open", number)
        self.write_body(body)
        self.write("close", number)

    def write_loop(self, statement):
        """Write a loop whose integer ascends."""
        _, name, count, body = statement
        limit, counter = self.new_register(), self.new_register()
        self.write_index(count)
        self.write("assign", limit)
        self.write("integer", 0)
        self.write("assign", counter)
        self.registers[name] = counter
        entry = self.write_jump()
        self.write("tick")
        self.write_body(body)
        self.write("register", counter)
        self.write("integer", 1)
        self.write("plus")
        self.write("assign", counter)
        self.send_here("jump", entry)
        self.write("register", counter)
        self.write("register", limit)
        self.write_repetition(entry + 1)

    def write_down(self, statement):
        """Write a loop whose integer descends; ahead of a round it is by 1 too great."""
        _, name, count, body = statement
        counter = self.new_register()
        self.write_index(count)
        self.write("assign", counter)
        self.registers[name] = counter
        entry = self.write_jump()
        self.write("tick")
        self.write("register", counter)
        self.write("integer", 1)
        self.write("minus")
        self.write("assign", counter)
        self.write_body(body)
        self.send_here("jump", entry)
        self.write("integer", 0)
        self.write("register", counter)
        self.write_repetition(entry + 1)

    def write_repetition(self, start):
        """Write that a loop begins again at its tick if an integer is less than another one."""
        self.write("less")
        self.write("not")
        self.write("branch", start)

    def write_choice(self, statement):
        """Write the choice between two bodies by a test or by a mark of the tape."""
        if statement[0] == "if":
            self.write_test(statement[1])
        else:
            self.write("unmark")
        first, second = statement[-2:]
        to_second = self.write_jump()
        self.write_body(first)
        to_end = self.write_jump()
        self.send_here("branch", to_second)
        self.write_body(second)
        self.send_here("jump", to_end)

    def write_call(self, statement):
        """Write the call of a procedure's body."""
        _, name, indexes, handed = statement
        for index in indexes:
            self.write_index(index)
        self.write("tick")
        self.write("call", self.numbers[name], len(indexes), tuple([self.variables[variable] for variable in handed]))

    def write_tape_access(self, statement):
        """Write what adds a number to the tape, or takes one from it."""
        head, what = statement
        if head == "push":
            self.write_expression(what)
            self.write("push")
        elif head == "mark":
            self.write_test(what)
            self.write("mark")
        else:
            self.write_access("pop", what[0], what[1])

    def write_access(self, head, name, index):
        """Write an access to the cell of a variable."""
        self.write_subscript(index)
        self.write(head, self.variables[name], index is not None)

    def write_subscript(self, index):
        """Write the index of an array; a scalar has none."""
        if index is not None:
            self.write_index(index)

    def write_expression(self, expression):
        """Write an expression.

        In all expressions of the sweeps, bars stand to the left of operations,
        and these to the left of all else. So the order is that of the text.
        """
        head = expression[0]
        if head == "number":
            self.write("number", expression[1])
        elif head == "place":
            self.write_access("load", expression[1], expression[2])
        elif head == "bar":
            self.write_access("load_bar", expression[1], expression[2])
        else:
            self.write_expression(expression[1])
            self.write_expression(expression[2])
            self.write(head)

    def write_index(self, index):
        """Write an index expression."""
        head = index[0]
        if head == "integer":
            self.write("integer", index[1])
        elif head == "index":
            self.write("register", self.registers[index[1]])
        elif head == "beat":
            self.write("beat")
        elif head == "rem":
            self.write_index(index[1])
            self.write("rem", index[2])
        else:
            self.write_index(index[1])
            self.write_index(index[2])
            self.write(head)

    def write_test(self, test):
        """Write a test."""
        head = test[0]
        if head == "zero":
            self.write_expression(test[1])
        elif head == "not":
            self.write_test(test[1])
        else:
            self.write_index(test[1])
            self.write_index(test[2])
        self.write(head)
