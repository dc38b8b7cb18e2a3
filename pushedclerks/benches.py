"""Benches: copies at work, pushed one by one, that read letter by letter and vote."""

from pushedclerks.checks import LONGEST_WORD, check_copies, check_letter, check_machine, check_number, check_state
from pushedclerks.courses import vote_of
from pushedclerks.errors import BadStep


class Bench:
    """Copies of a machine at work."""

    def __init__(self, machine, copies):
        check_machine(machine)
        check_copies(copies)
        self.machine = machine
        # The state of a copy that never was pushed, those of the copies, how many letters were read, and at how
        # many the vote was wrong: all that changes stands in one tuple, so that it can be kept and set back.
        self.now = (0, (0,) * copies, 0, 0)

    def push(self, copy, state):
        """Set a copy into a state."""
        right, states, letters, wrong = self.now
        check_number(copy, 0, len(states) - 1)
        check_state(self.machine, state)
        self.now = (right, states[:copy] + (state,) + states[copy + 1:], letters, wrong)

    def read(self, letter):
        """Let all copies read a letter, and give the vote, None without one."""
        check_letter(self.machine, letter)
        right, states, letters, wrong = self.now
        if letters == LONGEST_WORD:
            raise BadStep()
        steps, told = self.machine
        vote = vote_of([told[state][letter] for state in states])
        if vote != told[right][letter]:
            wrong += 1
        self.now = (steps[right][letter], tuple([steps[state][letter] for state in states]), letters + 1, wrong)
        return vote

    @property
    def states(self):
        """Give the tuple of the copies' states."""
        return self.now[1]

    @property
    def astray(self):
        """Give the ascending tuple of the copies whose state isn't that of a copy that never was pushed."""
        return tuple([copy for copy, state in enumerate(self.now[1]) if state != self.now[0]])

    @property
    def misses(self):
        """Tell at how many letters the vote wasn't the right answer."""
        return self.now[3]
