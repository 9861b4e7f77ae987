"""The errors that the program raises."""


class CountermarchError(ValueError):
    """The base class of all errors of the program; it is not raised itself."""


class FieldError(CountermarchError):
    """A division by 0."""


class TextError(CountermarchError):
    """A text that is no program: `at` is the index of what is wrong in it."""

    def __init__(self, at):
        super().__init__(f"the text is wrong at {at}")
        self.at = at


class TreeError(CountermarchError):
    """A tree that is no program: `path` leads to the statement that is wrong."""

    def __init__(self, path, reason):
        super().__init__(f"the tree is wrong at {path}: {reason}")
        self.path = path
        self.reason = reason


class ArgumentError(CountermarchError):
    """An argument that is refused: `reason` names it."""

    def __init__(self, reason):
        super().__init__(f"an argument is wrong: {reason}")
        self.reason = reason


class CodeError(CountermarchError):
    """Code that is not well formed for its program."""


class ScheduleError(CountermarchError):
    """A schedule that is refused: `number` is the index of the wrong action."""

    def __init__(self, number, reason):
        super().__init__(f"the schedule is wrong at action {number}: {reason}")
        self.number = number
        self.reason = reason


class PaperError(CountermarchError):
    """A paper that does not show what it claims."""

    def __init__(self, reason):
        super().__init__(f"the paper is wrong: {reason}")
        self.reason = reason


class CommandError(CountermarchError):
    """A line that a session does not answer."""

    def __init__(self, line):
        super().__init__(f"no command: {line}")
        self.line = line
