"""Votes that weigh: whether copies of unlike weights are enough, and how light the right answer's side may get."""

from pushedclerks.checks import check_machine, check_pushed, check_room, is_integer, is_tuple
from pushedclerks.clerks import rounded_up
from pushedclerks.courses import is_told, last_told, story_of
from pushedclerks.errors import BadWeights
from pushedclerks.lates import late

MOST_WEIGHTS = 20
GREATEST_WEIGHT = 99


def check_weights(weights):
    """Raise BadWeights for a value that is no weights."""
    if not is_tuple(weights, 1, MOST_WEIGHTS):
        raise BadWeights()
    if not all([is_integer(weight, 1, GREATEST_WEIGHT) for weight in weights]):
        raise BadWeights()


def pushed_in_the_end(machine, weights, pushed, room):
    """List the heaviest copies, as many as can answer a letter wrong, the heaviest first."""
    check_machine(machine)
    check_weights(weights)
    check_pushed(pushed)
    check_room(room)
    if pushed == 0:
        return []
    copies = sorted(range(len(weights)), key=lambda copy: weights[copy], reverse=True)
    length = late(machine)
    # Without a greatest length there is time to push all of them.
    if length is None:
        return copies
    return copies[:pushed * rounded_up(length, room)]


def lightest_side(machine, weights, pushed, room):
    """Give the least weight that the copies that give the right answer may have at a letter."""
    wrong = pushed_in_the_end(machine, weights, pushed, room)
    return sum(weights) - sum([weights[copy] for copy in wrong])


def are_heavy(machine, weights, pushed, room):
    """Tell whether, whatever is read and pushed, the right answer's copies weigh more than half of all."""
    return 2 * lightest_side(machine, weights, pushed, room) > sum(weights)


def heavy_story(machine, weights, pushed, room):
    """Give (word, strikes), by which the right answer's copies are the lightest side at the last letter."""
    wrong = pushed_in_the_end(machine, weights, pushed, room)
    if not wrong:
        return (0,), ()
    return story_of(machine, wrong, pushed, room)


def shows_heavy_story(machine, weights, pushed, room, value):
    """Tell whether a value is what heavy_story may return."""
    lightest = lightest_side(machine, weights, pushed, room)
    copies = len(weights)
    if not is_told(machine, copies, pushed, room, value):
        return False
    right, given, _ = last_told(machine, copies, value)
    return sum([weight for weight, answer in zip(weights, given) if answer == right]) == lightest


def most_heavy(weights):
    """Give the greatest number of copies, whichever they are, that weigh less than half."""
    check_weights(weights)
    heaviest = sorted(weights, reverse=True)
    many = 0
    while 2 * sum(heaviest[:many + 1]) < sum(weights):
        many += 1
    return many
