"""Machines: what they answer, and the least one that answers alike."""

from pushedclerks.checks import check_machine, check_state, check_word


def state_behind(machine, state, word):
    """Give the state to which a word leads from a state."""
    for letter in word:
        state = machine[0][state][letter]
    return state


def last_answer(machine, state, word):
    """Give the answer to the last letter of a word, not empty, from a state."""
    return machine[1][state_behind(machine, state, word[:-1])][word[-1]]


def answers(machine, state, word):
    """Give the tuple of the answers, letter by letter, to a word from a state."""
    check_machine(machine)
    check_state(machine, state)
    check_word(machine, word)
    steps, told = machine
    given = []
    for letter in word:
        given.append(told[state][letter])
        state = steps[state][letter]
    return tuple(given)


def first_come_numbers(keys):
    """Give each key a number, equal ones the same, numbered from 0 as they first come."""
    numbers = {}
    given = []
    for key in keys:
        given.append(numbers.setdefault(key, len(numbers)))
    return given


def alike_classes(machine):
    """Give each state a number that just the states have, too, from which every word is answered alike."""
    steps, told = machine
    classes = first_come_numbers(told)
    while True:
        keys = []
        for state, row in enumerate(steps):
            keys.append((classes[state], tuple([classes[after] for after in row])))
        finer = first_come_numbers(keys)
        # Numbering by first coming makes the lists equal exactly if no class was parted.
        if finer == classes:
            return classes
        classes = finer


def least_machine(machine):
    """Give the machine with the fewest states that answers every word from state 0 alike."""
    check_machine(machine)
    steps, told = machine
    classes = alike_classes(machine)
    numbers = {classes[0]: 0}
    # One state of each class that comes, in the sequence of the new numbers.
    chosen = [0]
    least_steps = []
    while len(least_steps) < len(chosen):
        state = chosen[len(least_steps)]
        row = []
        for after in steps[state]:
            if classes[after] not in numbers:
                numbers[classes[after]] = len(chosen)
                chosen.append(after)
            row.append(numbers[classes[after]])
        least_steps.append(tuple(row))
    return tuple(least_steps), tuple([told[old] for old in chosen])
