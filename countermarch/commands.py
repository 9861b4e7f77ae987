"""The lines that a session answers, and the answers."""

from countermarch.errors import CommandError
from countermarch.limits import MAX_BEATS, MAX_KEPT, PRIME
from countermarch.values import is_numeral

# How many numbers the commands have that set no row.
COUNTS = {"run": 1, "gradient": 2, "plan": 2, "check": 2}


def read_command(line, sizes):
    """Return the word and the numbers of a line.

    The sizes are those of the rows that a line may set, by their words.
    """
    words = line.split(" ")
    word, numerals = words[0], words[1:]
    if not all([is_numeral(numeral) for numeral in numerals]):
        raise CommandError(line)
    numbers = [int(numeral) for numeral in numerals]
    if word in sizes:
        right = len(numbers) == sizes[word] and all([number < PRIME for number in numbers])
    else:
        right = word in COUNTS and len(numbers) == COUNTS[word] and are_in_range(numbers)
    if not right:
        raise CommandError(line)
    return word, numbers


def are_in_range(numbers):
    """Tell whether a number of beats, and one of slots if it is there, keep to the limits."""
    return numbers[0] <= MAX_BEATS and all([1 <= slots <= MAX_KEPT for slots in numbers[1:]])


def write_words(words):
    """Return the line that consists of these words and numbers."""
    return " ".join([str(word) for word in words])


def write_row(word, numbers):
    """Return the line of a row of numbers."""
    return write_words([word] + list(numbers))


def write_fault(fault):
    """Return the line of a fault and its beat."""
    name, beat = fault
    return write_words(["fault", name, "beat", beat])
