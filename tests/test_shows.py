"""Point 3: the two functions that tell whether a value is what another one may return."""

from itertools import product
import unittest

from pushedclerks.lates import forgets, late, late_word, never_forgets, shows_late_word, shows_never_forgets
from tests.small import (
    APART, CHAIN, GREATEST, LAST, NAMED, ODD, RING, SILENT, all_machines, last_answer, lead, letters_of,
    slow_late, some_machines, words,
)

# Letters that are none of LAST's and of RING's, and are no integers of the document.
NO_LETTERS = (-1, 2, 3, 10 ** 30, True, False, None, "", "0", (), (0,), [], {})


class Base(unittest.TestCase):
    def yes(self, shows, machine, value):
        self.assertIs(True, shows(machine, value), (machine, value))

    def no(self, shows, machine, *values):
        for value in values:
            self.assertIs(False, shows(machine, value), (machine, value))


class LateWords(Base):
    def test_examples(self):
        self.yes(shows_late_word, LAST, ((), 1, (0,)))
        self.yes(shows_late_word, LAST, late_word(LAST))

    def test_all_values_of_small_machines(self):
        machines = all_machines(2, 2, 2)[::3] + all_machines(3, 1, 2)[::3]
        for machine in machines + some_machines(21, 60, most_states=4, most_letters=2):
            self.against_the_words(machine)

    def against_the_words(self, machine):
        greatest = slow_late(machine, 4)
        ways = words(letters_of(machine), 2)
        states = range(-1, len(machine[0]) + 1)
        for way, state, word in product(ways, states, words(letters_of(machine), 4)):
            right = bool(greatest) and len(word) == greatest and 0 <= state < len(machine[0])
            if right:
                one = last_answer(machine, lead(machine, 0, way), word)
                right = one != last_answer(machine, state, word)
            self.assertIs(right, shows_late_word(machine, (way, state, word)), (machine, way, state, word))
        self.assertIs(not greatest, shows_late_word(machine, None))

    def test_none(self):
        for machine in (SILENT, RING, APART, GREATEST):
            self.yes(shows_late_word, machine, None)
            self.no(shows_late_word, machine, (), ((), 0, ()), ((), 1, (0,)), False, 0)
        self.no(shows_late_word, LAST, None)
        self.no(shows_late_word, CHAIN, None)

    def test_other_ways_states_and_words(self):
        self.yes(shows_late_word, LAST, ((1,), 0, (1,)))
        self.yes(shows_late_word, LAST, ((0, 1, 1, 0), 1, (0,)))
        self.yes(shows_late_word, CHAIN, ((), 1, (1, 1, 1)))
        self.yes(shows_late_word, CHAIN, ((1, 1, 1), 0, (1, 1, 1)))
        self.no(shows_late_word, LAST, ((), 0, (0,)), ((1,), 1, (0,)), ((), 1, (0, 0)), ((), 1, ()))
        # Late, but not of the greatest length.
        self.no(shows_late_word, CHAIN, ((), 3, (1,)), ((), 2, (1, 1)), ((1, 1, 1), 0, (1,)))
        self.no(shows_late_word, CHAIN, ((), 1, (1, 1, 0)), ((), 1, (0, 1, 1)), ((), 0, (1, 1, 1)))

    def test_long_ways(self):
        # The document bounds no way here.
        for many in (4000, 4001, 9000):
            self.yes(shows_late_word, LAST, ((0,) * many, 1, (0,)))
            self.no(shows_late_word, LAST, ((0,) * many, 0, (0,)), ((0,) * many + (2,), 1, (0,)))
            self.no(shows_late_word, LAST, ((), 1, (0,) * many))

    def test_other_kinds_and_lengths(self):
        self.no(shows_late_word, LAST, *ODD)
        self.no(shows_late_word, LAST, *[value for value in ODD if value is not None])
        self.no(shows_late_word, LAST, (), ((),), ((), 1), ((), 1, (0,), ()), [(), 1, (0,)], {0: (), 1: 1, 2: (0,)})
        for odd in ODD + (None,):
            self.no(shows_late_word, LAST, (odd, 1, (0,)))
            if odd != ():
                self.no(shows_late_word, LAST, ((), 1, odd))
            self.no(shows_late_word, LAST, ((), odd, (0,)))

    def test_states_that_there_are_none_of(self):
        for state in (-1, 2, 10 ** 30, True, False, None, "1", (1,), [1], {}):
            self.no(shows_late_word, LAST, ((), state, (0,)), ((1,), state, (0,)))

    def test_letters_that_there_are_none_of(self):
        for letter in NO_LETTERS:
            self.no(shows_late_word, LAST, ((letter,), 0, (0,)), ((letter,), 1, (0,)), ((), 1, (letter,)))
            self.no(shows_late_word, CHAIN, ((), 1, (1, 1, letter)), ((0, letter, 0), 1, (1, 1, 1)))

    def test_lists_for_tuples(self):
        self.no(shows_late_word, LAST, ([], 1, (0,)), ((), 1, [0]), ([0], 1, [0]), ((), [1], (0,)))


class Rounds(Base):
    def test_example(self):
        self.yes(shows_never_forgets, RING, ((), 1, (0, 0), (0,)))

    def test_all_values_of_small_machines(self):
        machines = all_machines(2, 2, 2)[::5] + all_machines(3, 1, 2)[::7] + all_machines(1, 2, 2)
        for machine in machines + some_machines(22, 30, most_states=3, most_letters=2):
            self.against_the_words(machine)

    def against_the_words(self, machine):
        letters, many = letters_of(machine), len(machine[0])
        found = False
        for way, state, again, last in product(
                words(letters, 2), range(-1, many + 1), words(letters, 3), words(letters, 2)):
            right = 0 <= state < many and again != () and last != ()
            if right:
                one = lead(machine, 0, way)
                right = (
                    lead(machine, one, again) == one and lead(machine, state, again) == state
                    and last_answer(machine, one, last) != last_answer(machine, state, last))
            found = found or right
            value = (way, state, again, last)
            self.assertIs(right, shows_never_forgets(machine, value), (machine, value))
        # A round alone makes words of any length late.
        self.assertFalse(found and forgets(machine), machine)

    def test_other_rounds(self):
        self.yes(shows_never_forgets, RING, ((0,), 0, (0, 0), (0,)))
        self.yes(shows_never_forgets, RING, ((0,) * 7, 0, (0,) * 8, (0,) * 3))
        self.yes(shows_never_forgets, APART, ((), 2, (1, 1), (1, 1)))
        self.yes(shows_never_forgets, APART, ((1, 0), 3, (1, 1, 1, 1), (1,)))
        self.no(shows_never_forgets, APART, ((), 2, (1, 1), (1,)), ((), 2, (1,), (1, 1)), ((), 2, (0, 0), (1, 1)))
        self.no(shows_never_forgets, RING, ((), 0, (0, 0), (0,)), ((), 1, (0,), (0,)), ((0,), 1, (0, 0), (0,)))

    def test_both_states_must_come_back(self):
        # The letter 0 leaves both, the letter 1 leads both to state 0.
        machine = (((0, 0), (1, 0), (1, 0)), ((0, 0), (1, 0), (0, 0)))
        self.yes(shows_never_forgets, machine, ((), 1, (0,), (0,)))
        self.yes(shows_never_forgets, machine, ((1,), 1, (0, 0), (0, 0)))
        # State 2 isn't led back, though unlike answers follow from there.
        self.no(shows_never_forgets, machine, ((), 2, (0,), (0, 0)), ((), 1, (1,), (0,)), ((), 1, (0, 1), (0,)))
        # Here it is the state behind the way that isn't.
        machine = (((1,), (1,), (2,)), ((0,), (0,), (1,)))
        self.yes(shows_never_forgets, machine, ((0,), 2, (0,), (0,)))
        self.no(shows_never_forgets, machine, ((), 2, (0,), (0,)))

    def test_empty_words(self):
        self.no(shows_never_forgets, RING, ((), 1, (), (0,)), ((), 1, (0, 0), ()), ((), 1, (), ()))

    def test_a_machine_that_forgets(self):
        for machine in (LAST, CHAIN, SILENT, (((0,),), ((0,),))):
            self.no(shows_never_forgets, machine, *ODD)
            self.no(shows_never_forgets, machine, None, (), ((), 1, (0, 0), (0,)), ((), 0, (0,), (0,)))
            for value in product(words(1, 2), range(3), words(1, 3), words(1, 3)):
                self.no(shows_never_forgets, machine, value)
        # The round alone, and the unlike answers alone, are there.
        self.no(shows_never_forgets, CHAIN, ((), 3, (0,), (1,)), ((), 0, (0,), (1,)), ((1, 1, 1), 3, (1,), (1,)))

    def test_words_of_4000_letters_and_more(self):
        self.yes(shows_never_forgets, RING, ((0,) * 4000, 1, (0,) * 4000, (0,) * 4000))
        self.no(shows_never_forgets, RING, ((0,) * 4002, 1, (0, 0), (0,)))
        self.no(shows_never_forgets, RING, ((0,) * 4001, 0, (0, 0), (0,)))
        self.no(shows_never_forgets, RING, ((), 1, (0,) * 4002, (0,)))
        self.no(shows_never_forgets, RING, ((), 1, (0, 0), (0,) * 4001))

    def test_other_kinds_and_lengths(self):
        self.no(shows_never_forgets, RING, *ODD)
        self.no(shows_never_forgets, RING, None, (), ((), 1, (0, 0)), ((), 1, (0, 0), (0,), ()))
        self.no(shows_never_forgets, RING, [(), 1, (0, 0), (0,)], {0: (), 1: 1, 2: (0, 0), 3: (0,)})
        for odd in ODD + (None,):
            self.no(shows_never_forgets, RING, ((), odd, (0, 0), (0,)))
            self.no(shows_never_forgets, RING, (odd, 1, (0, 0), (0,)))
            self.no(shows_never_forgets, RING, ((), 1, odd, (0,)))
            self.no(shows_never_forgets, RING, ((), 1, (0, 0), odd))

    def test_states_that_there_are_none_of(self):
        for state in (-1, 2, 10 ** 30, True, False, None, "1", (1,), [1], {}):
            self.no(shows_never_forgets, RING, ((), state, (0, 0), (0,)), ((0,), state, (0, 0), (0,)))

    def test_letters_that_there_are_none_of(self):
        for letter in NO_LETTERS + (1,):
            self.no(shows_never_forgets, RING, ((letter, 0), 1, (0, 0), (0,)), ((), 1, (0, letter), (0,)))
            self.no(shows_never_forgets, RING, ((), 1, (letter, 0), (0,)), ((), 1, (0, 0), (letter,)))
            self.no(shows_never_forgets, RING, ((), 1, (0, 0), (letter, 0, 0)))

    def test_lists_for_tuples(self):
        self.no(shows_never_forgets, RING, ([], 1, (0, 0), (0,)), ((), 1, [0, 0], (0,)), ((), 1, (0, 0), [0]))


class DeepValues(Base):
    def test_tuples_deeper_than_python_recurses(self):
        deep = ()
        for _ in range(20000):
            deep = (deep,)
        self.no(shows_late_word, LAST, deep, (deep, 1, (0,)), ((), deep, (0,)), ((), 1, deep))
        self.no(shows_never_forgets, RING, deep, (deep, 1, (0, 0), (0,)), ((), deep, (0, 0), (0,)))
        self.no(shows_never_forgets, RING, ((), 1, deep, (0,)), ((), 1, (0, 0), deep))


class WhatTheOthersReturn(Base):
    def test_it_is_shown(self):
        for machine in NAMED + tuple(some_machines(23, 400)):
            self.yes(shows_late_word, machine, late_word(machine))
            if late(machine) is None:
                self.yes(shows_never_forgets, machine, never_forgets(machine))
                self.no(shows_late_word, machine, never_forgets(machine))


if __name__ == "__main__":
    unittest.main()
