"""Point 2: the least machine, held against a slow one."""

import unittest

from pushedclerks.machines import answers, least_machine
from tests.small import (
    ASIDE, CHAIN, GREATEST, LAST, NAMED, RING, SILENT, all_answers, all_machines, lead, letters_of, small_machines,
    some_machines, states_that_come, words,
)


def slow_least_machine(machine):
    """Make a state of each list of answers, to all words that can tell states apart, in the sequence of words."""
    letters, states = letters_of(machine), len(machine[0])
    tests = words(letters, states)

    def told(state):
        return tuple(all_answers(machine, state, word) for word in tests)

    signs = [told(state) for state in range(states)]
    # Shorter words come first, and those of the same length in ascending sequence: so do the states.
    kinds, chosen = [], []
    for way in words(letters, states):
        state = lead(machine, 0, way)
        if signs[state] not in kinds:
            kinds.append(signs[state])
            chosen.append(state)
    steps = tuple(tuple(kinds.index(signs[after]) for after in machine[0][state]) for state in chosen)
    return steps, tuple(machine[1][state] for state in chosen)


class LeastMachine(unittest.TestCase):
    def test_example(self):
        self.assertEqual((((0,),), ((4,),)), least_machine((((1,), (0,)), ((4,), (4,)))))

    def test_least_already(self):
        for machine in (LAST, RING, CHAIN, GREATEST, (((0, 0, 0),), ((9, 0, 9),))):
            self.assertEqual(machine, least_machine(machine))

    def test_states_that_cannot_come(self):
        self.assertEqual((((0,),), ((0,),)), least_machine(ASIDE))
        self.assertEqual((((0, 0),), ((1, 2),)), least_machine((((0, 0), (0, 1)), ((1, 2), (3, 4)))))
        # States 1 and 2 come only by each other.
        aside = (((3,), (2,), (1,), (0,)), ((0,), (5,), (6,), (1,)))
        self.assertEqual(RING, least_machine(aside))

    def test_states_that_answer_alike(self):
        self.assertEqual((((0, 0, 0),), ((5, 5, 5),)), least_machine(SILENT))
        ring_of_six = (((1,), (2,), (3,), (4,), (5,), (0,)), ((0,), (1,)) * 3)
        self.assertEqual(RING, least_machine(ring_of_six))
        ring_of_three = (((1,), (2,), (3,), (4,), (5,), (0,)), ((0,), (0,), (1,)) * 2)
        self.assertEqual((((1,), (2,), (0,)), ((0,), (0,), (1,))), least_machine(ring_of_three))

    def test_states_that_only_long_words_tell_apart(self):
        row = (((1,), (2,), (3,), (4,), (5,), (5,)), ((0,), (0,), (0,), (0,), (0,), (1,)))
        self.assertEqual(row, least_machine(row))
        self.assertEqual((((0,),), ((0,),)), least_machine((row[0], ((0,),) * 6)))

    def test_numbering(self):
        # From state 0 the letters lead to 5, then to 3, and from 5 first to 1.
        machine = (
            ((5, 3), (0, 0), (2, 2), (4, 0), (4, 4), (1, 3)),
            ((0, 0), (1, 1), (2, 2), (3, 3), (4, 4), (5, 5)),
        )
        least = (((1, 2), (3, 2), (4, 0), (0, 0), (4, 4)), ((0, 0), (5, 5), (3, 3), (1, 1), (4, 4)))
        self.assertEqual(least, least_machine(machine))

    def test_numbering_comes_letter_by_letter(self):
        machine = (((0, 3, 1), (2, 0, 0), (2, 2, 2), (0, 0, 2)), ((0, 0, 0), (1, 1, 1), (2, 2, 2), (3, 3, 3)))
        least = (((0, 1, 2), (0, 0, 3), (3, 0, 0), (3, 3, 3)), ((0, 0, 0), (3, 3, 3), (1, 1, 1), (2, 2, 2)))
        self.assertEqual(least, least_machine(machine))

    def test_all_small_machines(self):
        for machine in small_machines():
            self.assertEqual(slow_least_machine(machine), least_machine(machine), machine)

    def test_machines_of_three_states_and_two_letters(self):
        for machine in all_machines(3, 2, 2)[::37]:
            self.assertEqual(slow_least_machine(machine), least_machine(machine), machine)

    def test_greater_machines(self):
        for machine in some_machines(2, 300, most_states=4) + some_machines(3, 60, most_letters=2):
            self.assertEqual(slow_least_machine(machine), least_machine(machine), machine)

    def test_answers_alike_with_all_states_coming_and_unlike(self):
        for machine in NAMED + tuple(some_machines(4, 200, most_letters=2)):
            least = least_machine(machine)
            tests = words(letters_of(machine), len(least[0]))
            for word in words(letters_of(machine), 6):
                self.assertEqual(answers(machine, 0, word), answers(least, 0, word))
            self.assertEqual(list(range(len(least[0]))), states_that_come(least))
            told = [[all_answers(least, state, word) for word in tests] for state in range(len(least[0]))]
            self.assertTrue(all(told.count(row) == 1 for row in told), machine)
            self.assertEqual(least, least_machine(least))


if __name__ == "__main__":
    unittest.main()
