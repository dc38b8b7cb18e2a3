"""The errors of the package."""


class ClerkError(ValueError):
    """The base class of all errors of the package."""


class BadMachine(ClerkError):
    """A value is no machine; part is the first of "machine", "steps", "answers" that names what is wrong."""

    def __init__(self, part):
        ClerkError.__init__(self, f"no machine: its {part}")
        self.part = part


class BadNumber(ClerkError):
    """A number of copies, of pushed ones, or a room is not allowed."""


class BadLetters(ClerkError):
    """A value is no word or no letter of the machine, or has a length that is not allowed."""


class BadStrikes(ClerkError):
    """A value is no strikes; index is that of the first wrong strike, None if the whole is wrong."""

    def __init__(self, index):
        ClerkError.__init__(self, f"no strikes: wrong at {index}")
        self.index = index


class BadState(ClerkError):
    """A value is no state of the machine."""


class Forgets(ClerkError):
    """The machine forgets, and what is asked for is there only if it doesn't."""


class BadStep(ClerkError):
    """There can be no such step, forth or back."""


class Remembers(ClerkError):
    """The machine doesn't forget, and what is asked for is there only if it does."""


class BadLine(ClerkError):
    """A text's line, or a line told to a desk, is wrong; line is its number, counted from 0."""

    def __init__(self, line):
        ClerkError.__init__(self, f"wrong line: {line}")
        self.line = line


class BadText(ClerkError):
    """A text tells no word; place is that of the first wrong sign, counted from 0."""

    def __init__(self, place):
        ClerkError.__init__(self, f"wrong sign: {place}")
        self.place = place


class BadWeights(ClerkError):
    """A value is no weights."""


class BadChance(ClerkError):
    """A value is no chance."""
