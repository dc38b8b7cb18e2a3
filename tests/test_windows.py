"""Point 4: windows, held against the document's words."""

from itertools import product
import unittest

from pushedclerks.errors import BadLetters, Remembers
from pushedclerks.lates import late, late_word
from pushedclerks.machines import answers
from pushedclerks.windows import window, window_answer, window_table
from tests.small import (
    APART, ASIDE, CHAIN, GREATEST, LAST, LONGEST, NAMED, NO_NUMBERS, ONLY_BY_ASIDE, RING, SILENT, all_machines,
    last_answer, lead, letters_of, slow_late, small_machines, some_machines, states_that_come, words,
)

# As LONGEST, with as many letters as there may be: just five letters 1 lead from state 0 to the answer 9.
GREATEST_WINDOW = (
    ((0, 1, 0), (0, 2, 0), (0, 3, 0), (0, 4, 0), (0, 5, 0), (0, 5, 0)),
    ((0, 0, 0), (0, 0, 0), (0, 0, 0), (0, 0, 0), (0, 0, 0), (0, 9, 0)),
)
NO_LATE_WORD = (SILENT, (((0,),), ((9,),)), (((0, 0, 0),), ((1, 2, 3),)), (((1,), (0,)), ((4,), (4,))))
ENDLESS = (RING, APART, GREATEST)


def forgetting():
    machines = NAMED + NO_LATE_WORD + (LONGEST, ONLY_BY_ASIDE)
    machines += tuple(small_machines() + all_machines(3, 2, 2)[::61] + some_machines(41, 150, most_letters=2))
    return [machine for machine in machines if late(machine) is not None]


class Windows(unittest.TestCase):
    def test_examples(self):
        self.assertEqual([2, 1, (0, 0, 1, 1), None], [
            window(LAST), window_answer(LAST, (0, 1, 0)), window_table(LAST), window(RING)])
        with self.assertRaises(Remembers) as caught:
            window_table(RING)
        self.assertEqual({}, vars(caught.exception))

    def test_without_a_late_word(self):
        for machine in NO_LATE_WORD:
            self.assertEqual(1, window(machine))

    def test_with_a_greatest_length(self):
        for size, machine in (
                (2, LAST), (2, ASIDE), (3, ONLY_BY_ASIDE), (4, CHAIN), (6, LONGEST), (6, GREATEST_WINDOW)):
            self.assertEqual(size, window(machine))

    def test_without_end(self):
        for machine in ENDLESS:
            self.assertIsNone(window(machine))
            self.assertRaises(Remembers, window_table, machine)

    def test_one_more_than_the_greatest_late_word(self):
        for machine in small_machines() + some_machines(42, 120, most_states=4, most_letters=2):
            greatest = slow_late(machine, 6)
            self.assertEqual(None if greatest is None else greatest + 1, window(machine), machine)
            if greatest:
                self.assertEqual(len(late_word(machine)[2]) + 1, window(machine))

    def test_so_many_last_letters_tell_the_answer(self):
        for machine in forgetting():
            size, come = window(machine), states_that_come(machine)
            for word in product(range(letters_of(machine)), repeat=size):
                self.assertEqual(1, len({last_answer(machine, state, word) for state in come}), machine)

    def test_not_fewer(self):
        for machine in forgetting():
            size, come = window(machine), states_that_come(machine)
            if size == 1:
                continue
            # One begun in a state that comes, the other one anywhere.
            unlike = [
                (word, one, other) for word in product(range(letters_of(machine)), repeat=size - 1)
                for one in come for other in range(len(machine[0]))
                if last_answer(machine, one, word) != last_answer(machine, other, word)
            ]
            self.assertTrue(unlike, machine)

    def test_no_number_of_letters_without_end(self):
        machines = [machine for machine in NAMED + tuple(small_machines()) if window(machine) is None]
        self.assertGreater(len(machines), 50)
        for machine in machines:
            for size in (1, 2, 3, 4):
                unlike = [
                    word for word in product(range(letters_of(machine)), repeat=size)
                    if len({last_answer(machine, state, word) for state in range(len(machine[0]))}) > 1
                ]
                self.assertTrue(unlike, machine)


class Answers(unittest.TestCase):
    def test_words_of_just_so_many_letters_and_longer_ones(self):
        for machine in NAMED + NO_LATE_WORD + (LONGEST, ONLY_BY_ASIDE) + tuple(some_machines(43, 100, most_letters=2)):
            size = window(machine)
            if size is None:
                continue
            for word in words(letters_of(machine), size + 2):
                if len(word) >= size:
                    answer = window_answer(machine, word)
                    self.assertEqual(answers(machine, 0, word)[-1], answer, (machine, word))
                    self.assertEqual(last_answer(machine, 0, word[-size:]), answer)

    def test_whatever_the_state_ahead(self):
        for machine in (LAST, ASIDE, CHAIN, LONGEST, ONLY_BY_ASIDE, SILENT):
            size = window(machine)
            for way in words(letters_of(machine), 3):
                for last in product(range(letters_of(machine)), repeat=size):
                    answer = last_answer(machine, lead(machine, 0, way), last)
                    self.assertEqual(answer, window_answer(machine, way + last))
                    self.assertEqual(answer, window_answer(machine, last))

    def test_values(self):
        self.assertEqual([0, 0, 1, 1], [window_answer(LAST, word) for word in product((0, 1), repeat=2)])
        self.assertEqual(1, window_answer(CHAIN, (1, 1, 1, 1)))
        self.assertEqual(0, window_answer(CHAIN, (0, 1, 1, 1)))
        self.assertEqual(9, window_answer(GREATEST_WINDOW, (1,) * 6))
        self.assertEqual([1, 2, 3], [window_answer((((0, 0, 0),), ((1, 2, 3),)), (letter,)) for letter in range(3)])

    def test_shorter_words_and_the_empty_one(self):
        for machine in NAMED + NO_LATE_WORD + (LONGEST, ONLY_BY_ASIDE, GREATEST_WINDOW):
            size = window(machine)
            for word in words(letters_of(machine), (size or 1) - 1):
                with self.subTest(machine=machine, word=word), self.assertRaises(BadLetters) as caught:
                    window_answer(machine, word)
                self.assertEqual({}, vars(caught.exception))

    def test_letters_that_there_are_none_of(self):
        for letter in NO_NUMBERS + (2, 3):
            for word in ((letter,), (0, letter), (letter, 0), (0, letter, 1, 1)):
                for machine in (LAST, RING, CHAIN):
                    with self.subTest(letter=letter, machine=machine), self.assertRaises(BadLetters):
                        window_answer(machine, word)

    def test_what_is_no_word(self):
        for word in (None, True, 0, 1, "", "a", "01", "0101", [], [0], [0, 0, 0, 0], {}, {0: 0, 1: 0}, ((),), ((0,),)):
            for machine in (LAST, RING, SILENT):
                with self.subTest(word=word, machine=machine), self.assertRaises(BadLetters):
                    window_answer(machine, word)

    def test_long_words(self):
        self.assertEqual(1, window_answer(LAST, (0,) * 3998 + (1, 0)))
        self.assertEqual(0, window_answer(LAST, (1,) * 3998 + (0, 1)))
        for machine in (LAST, RING, SILENT):
            for many in (4001, 6000):
                self.assertRaises(BadLetters, window_answer, machine, (0,) * many)

    def test_remembers(self):
        for machine in ENDLESS:
            for word in ((0,), (0, 0), (0,) * 7, (0,) * 4000):
                with self.assertRaises(Remembers) as caught:
                    window_answer(machine, word)
                self.assertEqual({}, vars(caught.exception))

    def test_bad_letters_ahead_of_remembers(self):
        for machine in ENDLESS:
            for word in ((), (3,), (-1,), (0, True), [0], None, "0", (0,) * 4001):
                with self.subTest(word=word), self.assertRaises(BadLetters):
                    window_answer(machine, word)


class Tables(unittest.TestCase):
    def test_values(self):
        self.assertEqual((5, 5, 5), window_table(SILENT))
        self.assertEqual((1, 2, 3), window_table((((0, 0, 0),), ((1, 2, 3),))))
        self.assertEqual((9,), window_table((((0,),), ((9,),))))
        self.assertEqual((0,) * 15 + (1,), window_table(CHAIN))
        self.assertEqual((1,) + (0,) * 63, tuple(window_table(LONGEST)))
        # With one letter there is one word of three letters alone.
        self.assertEqual((0,), window_table(ONLY_BY_ASIDE))

    def test_the_greatest_one(self):
        table = window_table(GREATEST_WINDOW)
        self.assertEqual(3 ** 6, len(table))
        self.assertEqual([364], [place for place, answer in enumerate(table) if answer != 0])
        self.assertEqual(9, table[364])

    def test_against_answers(self):
        for machine in forgetting():
            size, letters, table = window(machine), letters_of(machine), window_table(machine)
            self.assertIs(tuple, type(table))
            self.assertEqual(letters ** size, len(table))
            ascending = sorted(product(range(letters), repeat=size))
            self.assertEqual([answers(machine, 0, word)[-1] for word in ascending], list(table), machine)
            for way in words(letters, 2):
                self.assertEqual([window_answer(machine, way + word) for word in ascending], list(table), machine)


if __name__ == "__main__":
    unittest.main()
