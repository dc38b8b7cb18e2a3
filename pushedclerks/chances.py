"""Pushes by chance: how likely the vote is right, and how often it isn't in the mean."""

from math import comb, gcd

from pushedclerks.checks import check_machine, check_number, check_word, is_integer, is_tuple
from pushedclerks.errors import BadChance
from pushedclerks.machines import state_behind

MOST_COPIES_BY_CHANCE = 25
GREATEST_BOTTOM = 100


def check_chance(chance):
    """Raise BadChance for a value that is no chance."""
    if not is_tuple(chance, 2, 2):
        raise BadChance()
    top, bottom = chance
    if not is_integer(bottom, 1, GREATEST_BOTTOM) or not is_integer(top, 0, bottom):
        raise BadChance()


def lowest_terms(top, bottom):
    """Give the fraction of top and bottom, a pair, in lowest terms."""
    shared = gcd(top, bottom)
    return top // shared, bottom // shared


def powers_of(number, greatest):
    """List the powers of a number, the exponents being 0 to the greatest."""
    powers = [1]
    for _ in range(greatest):
        powers.append(powers[-1] * number)
    return powers


def right_numbers(machine, way, word):
    """List, letter by letter of the word, from how many states, the way being read, the right answer is given."""
    steps, told = machine
    begun = state_behind(machine, 0, way)
    states = list(range(len(steps)))
    numbers = []
    for letter in word:
        given = [told[state][letter] for state in states]
        numbers.append(given.count(given[begun]))
        states = [steps[state][letter] for state in states]
    return numbers


def top_of_most(copies, right, wrong):
    """Give how many of all ways to choose let more than half of the copies be right.

    Each copy has so many right and so many wrong choices.
    """
    rights = powers_of(right, copies)
    wrongs = powers_of(wrong, copies)
    least = copies // 2 + 1
    return sum([comb(copies, many) * rights[many] * wrongs[copies - many] for many in range(least, copies + 1)])


def tops_and_bottom(machine, copies, chance, way, word):
    """List, letter by letter, the tops of the chances that the vote is right, and give their one bottom."""
    check_machine(machine)
    check_number(copies, 1, MOST_COPIES_BY_CHANCE)
    check_chance(chance)
    check_word(machine, way)
    check_word(machine, word)
    top, bottom = chance
    states = len(machine[0])
    # Each copy has so many choices, all alike likely, of which top * states push it, top into each state.
    choices = bottom * states
    tops = []
    for number in right_numbers(machine, way, word):
        wrong = top * (states - number)
        tops.append(top_of_most(copies, choices - wrong, wrong))
    return tops, powers_of(choices, copies)[-1]


def right_chances(machine, copies, chance, way, word):
    """Give the tuple, letter by letter of the word, of the chance that the vote is the right answer."""
    tops, bottom = tops_and_bottom(machine, copies, chance, way, word)
    return tuple([lowest_terms(top, bottom) for top in tops])


def mean_misses(machine, copies, chance, way, word):
    """Give the mean of how many letters of the word there are at which the vote isn't the right answer."""
    tops, bottom = tops_and_bottom(machine, copies, chance, way, word)
    return lowest_terms(bottom * len(tops) - sum(tops), bottom)
