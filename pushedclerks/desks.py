"""Desks: benches led by lines, the last of which can be taken back."""

from pushedclerks.benches import Bench
from pushedclerks.checks import is_integer
from pushedclerks.errors import BadLine, BadStep
from pushedclerks.texts import letter_told, number_told

GREATEST_TOLD = 99


def push_told(line):
    """Give the copy and the state that are told in a line for a push, None if none are."""
    words = line.split(" ")
    if len(words) != 3 or words[0] != "push":
        return None
    copy, state = number_told(words[1]), number_told(words[2])
    if not is_integer(copy, 0, GREATEST_TOLD) or not is_integer(state, 0, GREATEST_TOLD):
        return None
    return copy, state


def row_text(numbers):
    """Give the text of numbers with a blank between."""
    return " ".join([str(number) for number in numbers])


class Desk:
    """A bench led by lines."""

    def __init__(self, machine, copies):
        self.bench = Bench(machine, copies)
        # A triple for each push and letter that wasn't taken back: what was now on the bench ahead of it, and the
        # copy and the state, or None and the letter.
        self.done = []

    def do(self, line):
        """Do what a line says, and give the answer."""
        if not isinstance(line, str):
            raise BadLine(0)
        if line == "back":
            return self.take_back()
        if line == "astray":
            return row_text(self.bench.astray) or "none"
        if line == "misses":
            return str(self.bench.misses)
        if line == "states":
            return row_text(self.bench.states)
        letter = letter_told(self.bench.machine, line)
        if letter is not None:
            return self.read(letter)
        pushed = push_told(line)
        if pushed is None:
            raise BadLine(0)
        return self.push(pushed[0], pushed[1])

    def push(self, copy, state):
        """Set a copy into a state, and give the answer to the line that says so."""
        before = self.bench.now
        self.bench.push(copy, state)
        self.done.append((before, copy, state))
        return "done"

    def read(self, letter):
        """Let all copies read a letter, and give the answer to the line that says so."""
        before = self.bench.now
        vote = self.bench.read(letter)
        self.done.append((before, None, letter))
        if vote is None:
            return "no vote"
        return f"vote {vote}"

    def take_back(self):
        """Take the last push or letter back, and give the answer to the line that says so."""
        if not self.done:
            raise BadStep()
        bench = self.bench
        bench.now = self.done.pop()[0]
        return "done"

    def word(self):
        """Give the word that was read and not taken back."""
        return tuple([letter for _, copy, letter in self.done if copy is None])

    def pushes(self):
        """Give the strikes that were done and not taken back, at each place the last state of a copy alone."""
        struck = {}
        place = 0
        for _, copy, state in self.done:
            if copy is None:
                place += 1
            else:
                last = struck.setdefault(place, {})
                last[copy] = state
        return tuple([(at, tuple(sorted(last.items()))) for at, last in struck.items()])
