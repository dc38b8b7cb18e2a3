"""Tales: courses told in lines."""

from pushedclerks.courses import course
from pushedclerks.texts import lines_text, word_text


def pushes_line(pushes):
    """Give the line that tells the pushes of a strike."""
    told = ", ".join([f"{copy} to {state}" for copy, state in pushes])
    return f"push {told}"


def letter_line(sign, triple):
    """Give the line that tells a letter by its sign and what was answered to it."""
    right, given, vote = triple
    line = f"{sign}: no vote"
    if vote is not None:
        line = f"{sign}: {given.count(vote)} of {len(given)} say {vote}"
    if vote != right:
        return f"{line}, wrong, {right}"
    return line


def tale(machine, copies, word, strikes):
    """Tell a course in lines: the strikes, each ahead of its letter, the letters, and how many votes were wrong."""
    triples = course(machine, copies, word, strikes)
    struck = {place: pushes for place, pushes in strikes}
    lines = []
    for place, sign in enumerate(word_text(machine, word)):
        # A strike behind the word is ahead of no letter.
        if place in struck:
            lines.append(pushes_line(struck[place]))
        lines.append(letter_line(sign, triples[place]))
    misses = len([right for right, _, vote in triples if vote != right])
    lines.append(f"misses {misses}")
    return lines_text(lines)
