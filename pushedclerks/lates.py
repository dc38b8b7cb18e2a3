"""Late words: how long two copies of a machine may go on until they answer unlike."""

from pushedclerks.checks import check_machine, is_short_word, is_state, is_tuple, is_word
from pushedclerks.errors import Forgets
from pushedclerks.machines import last_answer, state_behind


def ways_to_states(machine):
    """Give a dict of the states that come, each with a shortest word that leads to it from state 0."""
    ways = {0: ()}
    waiting = [0]
    while waiting:
        state = waiting.pop(0)
        for letter, after in enumerate(machine[0][state]):
            if after not in ways:
                ways[after] = ways[state] + (letter,)
                waiting.append(after)
    return ways


def unlike_letters(machine, pairs):
    """Give a dict of the pairs of states that answer a letter unlike, each with the first such letter."""
    told = machine[1]
    found = {}
    for one, other in pairs:
        for letter, answer in enumerate(told[one]):
            if answer != told[other][letter]:
                found.setdefault((one, other), letter)
    return found


def pair_behind(machine, pair, letter):
    """Give the pair of states to which a letter leads a pair of states."""
    steps = machine[0]
    return steps[pair[0]][letter], steps[pair[1]][letter]


def letters_into(machine, pairs, ends):
    """Give a dict of the pairs that a letter leads to one of the ends, each with the first such letter."""
    found = {}
    for pair in pairs:
        for letter in range(len(machine[0][0])):
            if pair_behind(machine, pair, letter) in ends:
                found.setdefault(pair, letter)
    return found


def late_layers(machine):
    """List, by the number of letters from 1 on, what pairs have a late word, each with its first letter.

    Where there is no greatest length, the list ends at one letter more than there are pairs.
    """
    pairs = [(one, other) for one in ways_to_states(machine) for other in range(len(machine[0]))]
    layers = []
    layer = unlike_letters(machine, pairs)
    while layer and len(layers) <= len(pairs):
        layers.append(layer)
        layer = letters_into(machine, pairs, layer)
    return layers


def late_walk(machine):
    """List the pairs of states along a late word, each with the letter that is read there.

    The word is one of the greatest length. Where there is none, it has more letters than there are pairs,
    so that a pair comes twice.
    """
    layers = late_layers(machine)
    walk = []
    if layers:
        pair = list(layers[-1])[0]
        for layer in reversed(layers):
            walk.append((pair, layer[pair]))
            pair = pair_behind(machine, pair, layer[pair])
    return walk


def round_on(walk):
    """Give the two first places on the walk that have the same pair, None if none have."""
    places = {}
    for place, (pair, _) in enumerate(walk):
        if pair in places:
            return places[pair], place
        places[pair] = place
    return None


def letters_on(walk):
    """Give the word that is read on the walk."""
    return tuple([letter for _, letter in walk])


def late(machine):
    """Give the greatest length of a late word, 0 if there is none, None if there is no greatest."""
    check_machine(machine)
    walk = late_walk(machine)
    # A pair that comes twice can come as often as one likes, and words of any length are late.
    if round_on(walk) is not None:
        return None
    return len(walk)


def forgets(machine):
    """Tell whether late words have a greatest length, or there are none."""
    return late(machine) is not None


def late_word(machine):
    """Give (way, state, word), word being a late word of the greatest length; None without one."""
    check_machine(machine)
    walk = late_walk(machine)
    if not walk or round_on(walk) is not None:
        return None
    one, other = walk[0][0]
    return ways_to_states(machine)[one], other, letters_on(walk)


def answer_unlike(machine, one, other, word):
    """Tell whether unlike answers are given to the last letter of a word from two states."""
    return last_answer(machine, one, word) != last_answer(machine, other, word)


def shows_late_word(machine, value):
    """Tell whether a value is what late_word may return."""
    greatest = late(machine)
    if greatest is None or greatest == 0:
        return value is None
    if not is_tuple(value, 3, 3):
        return False
    way, state, word = value
    if not is_word(machine, way) or not is_state(machine, state) or not is_word(machine, word):
        return False
    return len(word) == greatest and answer_unlike(machine, state_behind(machine, 0, way), state, word)


def never_forgets(machine):
    """Give (way, state, again, last), for a machine that doesn't forget: again leads both states back."""
    check_machine(machine)
    walk = late_walk(machine)
    places = round_on(walk)
    if places is None:
        raise Forgets()
    start, stop = places
    one, other = walk[start][0]
    return ways_to_states(machine)[one], other, letters_on(walk[start:stop]), letters_on(walk[stop:])


def shows_never_forgets(machine, value):
    """Tell whether a value is what never_forgets may return, in words of at most 4000 letters."""
    check_machine(machine)
    if not is_tuple(value, 4, 4):
        return False
    way, state, again, last = value
    if not all([is_short_word(machine, word) for word in (way, again, last)]):
        return False
    if not is_state(machine, state) or not again or not last:
        return False
    one = state_behind(machine, 0, way)
    # Such a round makes words of any length late, so that a machine that forgets has none.
    if state_behind(machine, one, again) != one or state_behind(machine, state, again) != state:
        return False
    return answer_unlike(machine, one, state, last)
