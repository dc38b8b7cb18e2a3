"""Words that clear: they lead all states to states from which every word is answered alike."""

from pushedclerks.checks import check_machine, check_word, is_state, is_tuple
from pushedclerks.courses import check_course, states_reading
from pushedclerks.lates import pair_behind
from pushedclerks.machines import alike_classes, state_behind


def are_alike(classes, states):
    """Tell whether all of the states are alike, classes being the numbers of the states' classes."""
    return len({classes[state] for state in states}) == 1


def clears(machine, word):
    """Tell whether a word leads all states to states alike."""
    check_machine(machine)
    check_word(machine, word)
    led = [state_behind(machine, state, word) for state in range(len(machine[0]))]
    return are_alike(alike_classes(machine), led)


def states_led(machine, states, letter):
    """Give the ascending tuple of the states to which a letter leads the states."""
    return tuple(sorted({machine[0][state][letter] for state in states}))


def clearing_word(machine):
    """Give the first of the shortest words that clear the machine, None if there is none."""
    check_machine(machine)
    classes = alike_classes(machine)
    begun = tuple(range(len(machine[0])))
    # The rows of states to which words lead all states, each with the first of the shortest words that do. Words
    # are made longer one behind the other, the letters ascending, and so they come in the sequence asked for.
    words = {begun: ()}
    waiting = [begun]
    while waiting:
        states = waiting.pop(0)
        if are_alike(classes, states):
            return words[states]
        for letter in range(len(machine[0][0])):
            led = states_led(machine, states, letter)
            if led not in words:
                words[led] = words[states] + (letter,)
                waiting.append(led)
    return None


def leads_into(machine, pair, pairs):
    """Tell whether each letter leads a pair of states to one of the pairs, the lesser state first."""
    letters = range(len(machine[0][0]))
    return all([tuple(sorted(pair_behind(machine, pair, letter))) in pairs for letter in letters])


def parted_pairs(machine):
    """List the pairs of states, the lesser one first, that no word leads to states alike."""
    classes = alike_classes(machine)
    states = range(len(machine[0]))
    pairs = [(one, other) for one in states for other in states if one < other and classes[one] != classes[other]]
    while True:
        kept = [pair for pair in pairs if leads_into(machine, pair, pairs)]
        if kept == pairs:
            return pairs
        pairs = kept


def parted_pair(machine):
    """Give a pair of states, the lesser one first, that no word leads to states alike, None if there is none."""
    check_machine(machine)
    pairs = parted_pairs(machine)
    if not pairs:
        return None
    return pairs[0]


def shows_parted_pair(machine, value):
    """Tell whether a value is what parted_pair may return."""
    check_machine(machine)
    pairs = parted_pairs(machine)
    if not pairs:
        return value is None
    # Python takes True and False for the states 1 and 0.
    if not is_tuple(value, 2, 2) or not all([is_state(machine, state) for state in value]):
        return False
    return value in pairs


def cleared_by(machine, copies, word, strikes):
    """Give the ascending tuple of the numbers of letters, from 0 to all, behind which the copies are cleared.

    That is, ahead of a strike there, all are in states alike to that of a copy that never was pushed.
    """
    check_course(machine, copies, word, strikes)
    steps = machine[0]
    classes = alike_classes(machine)
    # Ahead of the first letter, and of a strike there, all are in state 0.
    numbers = [0]
    for place, (right, states) in enumerate(states_reading(machine, copies, word, strikes)):
        letter = word[place]
        if are_alike(classes, [steps[state][letter] for state in [right, *states]]):
            numbers.append(place + 1)
    return tuple(numbers)
