"""Courses: what copies answer that strikes push, how they vote, and stories of a vote that isn't right."""

from pushedclerks.checks import (
    are_strikes, check_copies, check_machine, check_strikes, check_word, is_short_word, is_tuple,
)
from pushedclerks.clerks import are_enough, rounded_up
from pushedclerks.lates import forgets, late_word, never_forgets
from pushedclerks.machines import state_behind


def vote_of(given):
    """Give the answer of more than half of the answers given, None without one."""
    # What more than half of all are also stands in the middle of all.
    middle = sorted(given)[len(given) // 2]
    if 2 * given.count(middle) > len(given):
        return middle
    return None


def states_reading(machine, copies, word, strikes):
    """List, letter by letter, the state in which a copy that never was pushed reads it, and those of the copies."""
    steps = machine[0]
    struck = {place: pushes for place, pushes in strikes}
    right = 0
    states = [0] * copies
    found = []
    for place, letter in enumerate(word):
        for copy, into in struck.get(place, ()):
            states[copy] = into
        found.append((right, states))
        right = steps[right][letter]
        states = [steps[state][letter] for state in states]
    return found


def letters_told(machine, copies, word, strikes):
    """List, letter by letter, triples (right answer, tuple of the copies' answers, vote)."""
    told = machine[1]
    triples = []
    for letter, (right, states) in zip(word, states_reading(machine, copies, word, strikes)):
        given = tuple([told[state][letter] for state in states])
        triples.append((told[right][letter], given, vote_of(given)))
    return triples


def check_course(machine, copies, word, strikes):
    """Raise the error of the first argument that a course can't have."""
    check_machine(machine)
    check_copies(copies)
    check_word(machine, word)
    check_strikes(machine, copies, strikes)


def course(machine, copies, word, strikes):
    """Give the tuple, letter by letter, of triples (right answer, tuple of the copies' answers, vote)."""
    check_course(machine, copies, word, strikes)
    return tuple(letters_told(machine, copies, word, strikes))


def wrong_votes(machine, copies, word, strikes):
    """Give the ascending tuple of the places of the letters at which the vote isn't the right answer."""
    triples = course(machine, copies, word, strikes)
    return tuple([place for place, (right, _, vote) in enumerate(triples) if vote != right])


def long_late_word(machine, length):
    """Give (way, state, word) as late_word does, of so many letters at least where the machine doesn't forget."""
    if forgets(machine):
        return late_word(machine)
    way, state, again, last = never_forgets(machine)
    return way, state, again * rounded_up(length, len(again)) + last


def story_of(machine, wrong, pushed, room):
    """Give (word, strikes), by which the copies listed, and they alone, answer the last letter wrong.

    There must be a late word with room for as many strikes as it takes to push them all.
    """
    many = rounded_up(len(wrong), pushed)
    way, state, word = long_late_word(machine, (many - 1) * room + 1)
    strikes = []
    for back in range(many):
        place = len(word) - 1 - back * room
        into = state_behind(machine, state, word[:place])
        chosen = sorted(wrong[back * pushed:(back + 1) * pushed])
        strikes.append((len(way) + place, tuple([(copy, into) for copy in chosen])))
    return way + word, tuple(strikes[::-1])


def story(machine, copies, pushed, room):
    """Give (word, strikes), by which the vote at the last letter isn't the right answer, None if there is none."""
    if are_enough(machine, copies, pushed, room):
        return None
    # The right answer has no vote as soon as half of the copies give another one, and as the copies aren't enough,
    # there is room for pushing so many.
    return story_of(machine, list(range(rounded_up(copies, 2))), pushed, room)


def are_seldom(strikes, pushed, room):
    """Tell whether strikes push so many copies each at most, at places that differ by the room at least."""
    if not all([len(pushes) <= pushed for _, pushes in strikes]):
        return False
    return all([after[0] - strike[0] >= room for strike, after in zip(strikes, strikes[1:])])


def is_told(machine, copies, pushed, room, value):
    """Tell whether a value is (word, strikes), a word and seldom strikes that a story may have."""
    if not is_tuple(value, 2, 2):
        return False
    word, strikes = value
    if not is_short_word(machine, word) or not word:
        return False
    return are_strikes(machine, copies, strikes) and are_seldom(strikes, pushed, room)


def last_told(machine, copies, value):
    """Give (right answer, tuple of the copies' answers, vote) at the last letter of (word, strikes)."""
    word, strikes = value
    return letters_told(machine, copies, word, strikes)[-1]


def shows_story(machine, copies, pushed, room, value):
    """Tell whether a value is what story may return."""
    if are_enough(machine, copies, pushed, room):
        return value is None
    if not is_told(machine, copies, pushed, room, value):
        return False
    right, _, vote = last_told(machine, copies, value)
    return vote != right
