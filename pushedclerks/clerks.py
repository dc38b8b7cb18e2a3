"""How many copies are enough against pushed ones, and how many pushed ones or how little room they bear."""

from pushedclerks.checks import GREATEST_ROOM, check_copies, check_machine, check_pushed, check_room
from pushedclerks.lates import late
from pushedclerks.machines import least_machine


def rounded_up(top, bottom):
    """Give top divided by bottom, rounded up to an integer."""
    return (top + bottom - 1) // bottom


def copies_needed(machine, pushed, room):
    """Give the least number of copies that is enough, None if none is."""
    check_machine(machine)
    check_pushed(pushed)
    check_room(room)
    if pushed == 0:
        return 1
    length = late(machine)
    if length is None:
        return None
    return 2 * pushed * rounded_up(length, room) + 1


def are_enough(machine, copies, pushed, room):
    """Tell whether so many copies are enough."""
    check_machine(machine)
    check_copies(copies)
    needed = copies_needed(machine, pushed, room)
    return needed is not None and copies >= needed


def most_pushed(machine, copies, room):
    """Give the greatest number of pushed ones in each strike that so many copies bear, None for any number."""
    check_machine(machine)
    check_copies(copies)
    check_room(room)
    length = late(machine)
    # Strikes of one copy each lead, in the end, as many astray as one likes.
    if length is None:
        return 0
    if length == 0:
        return None
    return (copies - 1) // (2 * rounded_up(length, room))


def least_room(machine, copies, pushed):
    """Give the least room between two strikes with which so many copies are enough, None without any."""
    # The arguments are checked in this sequence by are_enough.
    for room in range(1, GREATEST_ROOM + 1):
        if are_enough(machine, copies, pushed, room):
            return room
    return None


def fewest_of_all(machine, pushed, room):
    """Give the least number that is enough for any machine that answers every word alike, None if none is."""
    return copies_needed(least_machine(machine), pushed, room)
