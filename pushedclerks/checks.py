"""What may be passed as a machine, a state, a letter, a word, a number or strikes, and the errors for what may not."""

from pushedclerks.errors import BadLetters, BadMachine, BadNumber, BadState, BadStrikes

MOST_STATES = 6
MOST_LETTERS = 3
MOST_ANSWER = 9
LONGEST_WORD = 4000
MOST_COPIES = 99
MOST_PUSHED = 9
GREATEST_ROOM = 60
MOST_STRIKES = 4000
GREATEST_PLACE = 4000


def is_integer(value, low, high):
    """Tell whether a value is an integer from low to high."""
    # Python takes True and False for integers, the document doesn't.
    return isinstance(value, int) and not isinstance(value, bool) and low <= value <= high


def is_tuple(value, low, high):
    """Tell whether a value is a tuple of low to high things."""
    return isinstance(value, tuple) and low <= len(value) <= high


def is_row(value, greatest):
    """Tell whether a value is a tuple of integers from 0 to the greatest."""
    return isinstance(value, tuple) and all([is_integer(item, 0, greatest) for item in value])


def is_table(value, height, width, greatest):
    """Tell whether a value is a tuple of so many rows of so many integers from 0 to the greatest."""
    if not is_tuple(value, height, height):
        return False
    return all([is_row(row, greatest) and len(row) == width for row in value])


def is_steps(value):
    """Tell whether a value is the steps of a machine."""
    if not is_tuple(value, 1, MOST_STATES) or not is_tuple(value[0], 1, MOST_LETTERS):
        return False
    return is_table(value, len(value), len(value[0]), len(value) - 1)


def check_machine(machine):
    """Raise BadMachine for a value that is no machine."""
    if not is_tuple(machine, 2, 2):
        raise BadMachine("machine")
    steps, told = machine
    if not is_steps(steps):
        raise BadMachine("steps")
    if not is_table(told, len(steps), len(steps[0]), MOST_ANSWER):
        raise BadMachine("answers")


def is_state(machine, value):
    """Tell whether a value is a state of the machine."""
    return is_integer(value, 0, len(machine[0]) - 1)


def check_state(machine, state):
    """Raise BadState for a value that is no state of the machine."""
    if not is_state(machine, state):
        raise BadState()


def is_letter(machine, value):
    """Tell whether a value is a letter of the machine."""
    return is_integer(value, 0, len(machine[0][0]) - 1)


def check_letter(machine, letter):
    """Raise BadLetters for a value that is no letter of the machine."""
    if not is_letter(machine, letter):
        raise BadLetters()


def is_word(machine, value):
    """Tell whether a value is a word of the machine, of any length."""
    return is_row(value, len(machine[0][0]) - 1)


def is_short_word(machine, value):
    """Tell whether a value is a word of the machine that may be passed as an argument."""
    return is_tuple(value, 0, LONGEST_WORD) and is_word(machine, value)


def check_word(machine, word):
    """Raise BadLetters for a value that is no word of the machine, or too long a one."""
    if not is_short_word(machine, word):
        raise BadLetters()


def check_number(value, low, high):
    """Raise BadNumber for a value that is no integer from low to high."""
    if not is_integer(value, low, high):
        raise BadNumber()


def check_copies(copies):
    """Raise BadNumber for a value that is no number of copies."""
    check_number(copies, 1, MOST_COPIES)


def check_pushed(pushed):
    """Raise BadNumber for a value that is no number of copies pushed in each strike."""
    check_number(pushed, 0, MOST_PUSHED)


def check_room(room):
    """Raise BadNumber for a value that is no room between two strikes."""
    check_number(room, 1, GREATEST_ROOM)


def is_push(machine, copies, value):
    """Tell whether a value is a pair of one of so many copies and a state."""
    return is_tuple(value, 2, 2) and is_integer(value[0], 0, copies - 1) and is_state(machine, value[1])


def are_pushes(machine, copies, value):
    """Tell whether a value is the pushes of a strike on so many copies."""
    # No copy stands there twice, so that there are no more pushes than copies.
    if not is_tuple(value, 1, copies) or not all([is_push(machine, copies, push) for push in value]):
        return False
    return all([push[0] < after[0] for push, after in zip(value, value[1:])])


def is_strike(machine, copies, value, least_place):
    """Tell whether a value is a strike on so many copies, at the least place or a greater one."""
    if not is_tuple(value, 2, 2) or not is_integer(value[0], least_place, GREATEST_PLACE):
        return False
    return are_pushes(machine, copies, value[1])


def wrong_strike(machine, copies, rows):
    """Give the index of the first thing that is no strike or can't stand there, None without one."""
    least_place = 0
    for index, row in enumerate(rows):
        if not is_strike(machine, copies, row, least_place):
            return index
        least_place = row[0] + 1
    return None


def are_strikes(machine, copies, value):
    """Tell whether a value is strikes on so many copies."""
    return is_tuple(value, 0, MOST_STRIKES) and wrong_strike(machine, copies, value) is None


def check_strikes(machine, copies, strikes):
    """Raise BadStrikes for a value that is no strikes on so many copies."""
    if not is_tuple(strikes, 0, MOST_STRIKES):
        raise BadStrikes(None)
    index = wrong_strike(machine, copies, strikes)
    if index is not None:
        raise BadStrikes(index)
