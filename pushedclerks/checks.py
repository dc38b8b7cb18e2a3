"""What may be passed as a machine, a state or a word, and the errors for what may not."""

from pushedclerks.errors import BadLetters, BadMachine, BadState

MOST_STATES = 6
MOST_LETTERS = 3
MOST_ANSWER = 9
LONGEST_WORD = 4000


def is_integer(value, low, high):
    """Tell whether a value is an integer from low to high."""
    # Python takes True and False for integers, the document doesn't.
    return isinstance(value, int) and not isinstance(value, bool) and low <= value <= high


def is_tuple(value, low, high):
    """Tell whether a value is a tuple of low to high things."""
    return isinstance(value, tuple) and low <= len(value) <= high


def is_row(value, greatest):
    """Tell whether a value is a tuple of integers from 0 to the greatest."""
    return isinstance(value, tuple) and all([is_integer(item, 0, greatest) for item in value])


def is_table(value, height, width, greatest):
    """Tell whether a value is a tuple of so many rows of so many integers from 0 to the greatest."""
    if not is_tuple(value, height, height):
        return False
    return all([is_row(row, greatest) and len(row) == width for row in value])


def is_steps(value):
    """Tell whether a value is the steps of a machine."""
    if not is_tuple(value, 1, MOST_STATES) or not is_tuple(value[0], 1, MOST_LETTERS):
        return False
    return is_table(value, len(value), len(value[0]), len(value) - 1)


def check_machine(machine):
    """Raise BadMachine for a value that is no machine."""
    if not is_tuple(machine, 2, 2):
        raise BadMachine("machine")
    steps, told = machine
    if not is_steps(steps):
        raise BadMachine("steps")
    if not is_table(told, len(steps), len(steps[0]), MOST_ANSWER):
        raise BadMachine("answers")


def is_state(machine, value):
    """Tell whether a value is a state of the machine."""
    return is_integer(value, 0, len(machine[0]) - 1)


def check_state(machine, state):
    """Raise BadState for a value that is no state of the machine."""
    if not is_state(machine, state):
        raise BadState()


def is_word(machine, value):
    """Tell whether a value is a word of the machine, of any length."""
    return is_row(value, len(machine[0][0]) - 1)


def is_short_word(machine, value):
    """Tell whether a value is a word of the machine that may be passed as an argument."""
    return is_tuple(value, 0, LONGEST_WORD) and is_word(machine, value)


def check_word(machine, word):
    """Raise BadLetters for a value that is no word of the machine, or too long a one."""
    if not is_short_word(machine, word):
        raise BadLetters()
