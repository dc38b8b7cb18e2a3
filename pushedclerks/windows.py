"""Windows: by how many last letters the answer to a letter goes."""

from pushedclerks.checks import check_word
from pushedclerks.errors import BadLetters, Remembers
from pushedclerks.lates import late
from pushedclerks.machines import last_answer


def window(machine):
    """Give by how many last letters, it being the last one, the answer to a letter goes; None without end."""
    length = late(machine)
    if length is None:
        return None
    return length + 1


def window_answer(machine, word):
    """Give the answer to the last letter of a word of as many letters as the window, or more."""
    size = window(machine)
    check_word(machine, word)
    # Without a window every word is long enough but the empty one, which has no last letter.
    if not word or (size is not None and len(word) < size):
        raise BadLetters()
    if size is None:
        raise Remembers()
    return last_answer(machine, 0, word)


def words_of(machine, length):
    """List all words of just so many letters, in ascending sequence."""
    found = [()]
    for _ in range(length):
        found = [word + (letter,) for word in found for letter in range(len(machine[0][0]))]
    return found


def window_table(machine):
    """Give the tuple of the answers to all words of as many letters as the window, in ascending sequence."""
    size = window(machine)
    if size is None:
        raise Remembers()
    return tuple([last_answer(machine, 0, word) for word in words_of(machine, size)])
