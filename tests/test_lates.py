"""Point 3: late words and machines that never forget, held against the document's words."""

import unittest

from pushedclerks.errors import Forgets
from pushedclerks.lates import forgets, late, late_word, never_forgets, shows_late_word, shows_never_forgets
from tests.small import (
    APART, ASIDE, CHAIN, GREATEST, LAST, LONGEST, NAMED, ONLY_BY_ASIDE, RING, SILENT, all_machines, is_late,
    last_answer, late_lengths, lead, letters_of, slow_late, small_machines, some_machines,
)


class Numbers(unittest.TestCase):
    def test_examples(self):
        self.assertEqual(1, late(LAST))
        self.assertIsNone(late(RING))
        self.assertIs(False, forgets(RING))
        with self.assertRaises(Forgets) as caught:
            never_forgets(LAST)
        self.assertEqual({}, vars(caught.exception))

    def test_without_a_late_word(self):
        for machine in (SILENT, (((0,),), ((9,),)), (((0, 0, 0),), ((1, 2, 3),)), (((1,), (0,)), ((4,), (4,)))):
            self.assertEqual(0, late(machine))
            self.assertIs(True, forgets(machine))
            self.assertIsNone(late_word(machine))
            self.assertRaises(Forgets, never_forgets, machine)

    def test_with_a_greatest_length(self):
        for length, machine in ((1, LAST), (1, ASIDE), (3, CHAIN), (5, LONGEST), (2, ONLY_BY_ASIDE)):
            self.assertEqual(length, late(machine))
            self.assertIs(True, forgets(machine))
            self.assertEqual(length, len(late_word(machine)[2]))
            self.assertRaises(Forgets, never_forgets, machine)

    def test_without_end(self):
        for machine in (RING, APART, GREATEST, (((0, 0), (1, 0)), ((0, 0), (0, 1)))):
            self.assertIsNone(late(machine))
            self.assertIs(False, forgets(machine))
            self.assertIsNone(late_word(machine))
            self.assertEqual(4, len(never_forgets(machine)))

    def test_states_that_cannot_come_count_on_one_side_only(self):
        # States 1 and 2 answer unlike for ever, but neither comes, and state 0 answers as they do for a letter.
        machine = (((0,), (0,), (0,)), ((0,), (1,), (2,)))
        self.assertEqual(1, late(machine))
        self.assertEqual(((), (0,)), late_word(machine)[::2])
        # Here each one answers as state 0 does, whatever is read, but for what the other letters tell.
        alike = (((0, 0), (1, 1), (1, 0)), ((3, 3), (3, 3), (3, 3)))
        self.assertEqual(0, late(alike))

    def test_late_with_a_round_that_leads_to_no_unlike_answers(self):
        # The states 0 and 1 can be parted for ever by the letter 0, but the letter 1 makes them one.
        machine = (((0, 2), (1, 2), (2, 2)), ((0, 0), (0, 0), (0, 0)))
        self.assertEqual(0, late(machine))
        machine = (((0, 2), (1, 2), (2, 2)), ((0, 0), (0, 5), (0, 0)))
        self.assertIsNone(late(machine))
        # Pairs go round that no word leads to unlike answers, and others answer unlike at once.
        machine = (((1, 1), (0, 0), (0, 0)), ((0, 0), (0, 0), (0, 1)))
        self.assertEqual(1, late(machine))


class AgainstAllWords(unittest.TestCase):
    def test_all_small_machines(self):
        for machine in small_machines():
            self.assertEqual(slow_late(machine, 5), late(machine), machine)

    def test_more_machines(self):
        machines = all_machines(3, 2, 2)[::61] + some_machines(11, 250, most_states=4, most_letters=2)
        for machine in machines + some_machines(12, 40, most_letters=2) + some_machines(13, 40, most_states=3):
            length = late(machine)
            self.assertEqual(slow_late(machine, 6), length, machine)
            self.assertTrue(length is None or length < len(machine[0]), machine)
            self.assertIs(length is not None, forgets(machine))

    def test_endless_means_all_lengths(self):
        for machine in some_machines(14, 80, most_states=3, most_letters=2):
            lengths = late_lengths(machine, 9)
            many = 9 if late(machine) is None else late(machine)
            self.assertEqual(list(range(1, many + 1)), lengths, machine)


class Told(unittest.TestCase):
    def machines(self):
        named = NAMED + (LONGEST, ONLY_BY_ASIDE)
        return list(named) + small_machines() + all_machines(3, 2, 2)[::41] + some_machines(15, 1500)

    def right_word(self, machine, word):
        self.assertIs(tuple, type(word))
        for letter in word:
            self.assertIs(int, type(letter))
            self.assertIn(letter, range(letters_of(machine)))

    def right_state(self, machine, state):
        self.assertIs(int, type(state))
        self.assertIn(state, range(len(machine[0])))

    def test_late_words(self):
        many = 0
        for machine in self.machines():
            length, told = late(machine), late_word(machine)
            self.assertIs(True, shows_late_word(machine, told), machine)
            if not length:
                self.assertIsNone(told)
                continue
            many += 1
            way, state, word = told
            self.assertIs(tuple, type(told))
            self.right_word(machine, way)
            self.right_state(machine, state)
            self.right_word(machine, word)
            self.assertEqual(length, len(word))
            self.assertNotEqual(
                last_answer(machine, lead(machine, 0, way), word), last_answer(machine, state, word), machine)
            if letters_of(machine) < 3:
                self.assertTrue(is_late(machine, word))
        self.assertGreater(many, 300)

    def test_rounds(self):
        many = 0
        for machine in self.machines():
            if late(machine) is not None:
                self.assertRaises(Forgets, never_forgets, machine)
                continue
            many += 1
            told = never_forgets(machine)
            self.assertIs(True, shows_never_forgets(machine, told), machine)
            way, state, again, last = told
            self.assertIs(tuple, type(told))
            self.right_state(machine, state)
            for word in (way, again, last):
                self.right_word(machine, word)
                self.assertLessEqual(len(word), 4000)
            self.assertTrue(again and last)
            one = lead(machine, 0, way)
            self.assertEqual((one, state), (lead(machine, one, again), lead(machine, state, again)))
            self.assertNotEqual(last_answer(machine, one, last), last_answer(machine, state, last), machine)
        self.assertGreater(many, 300)


if __name__ == "__main__":
    unittest.main()
