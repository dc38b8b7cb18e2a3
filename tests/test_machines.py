"""Point 2: machines, states, words, and answers."""

import unittest

from pushedclerks.benches import Bench
from pushedclerks.chances import mean_misses, right_chances
from pushedclerks.clears import cleared_by, clearing_word, clears, parted_pair, shows_parted_pair
from pushedclerks.clerks import are_enough, copies_needed, fewest_of_all, least_room, most_pushed
from pushedclerks.courses import course, shows_story, story, wrong_votes
from pushedclerks.desks import Desk
from pushedclerks.errors import BadLetters, BadMachine, BadState
from pushedclerks.lates import forgets, late, late_word, never_forgets, shows_late_word, shows_never_forgets
from pushedclerks.machines import answers, least_machine
from pushedclerks.tales import tale
from pushedclerks.texts import machine_text, read_strikes, read_word, strikes_text, word_text
from pushedclerks.weights import are_heavy, heavy_story, lightest_side, shows_heavy_story
from pushedclerks.windows import window, window_answer, window_table
from tests.small import GREATEST, LAST, NAMED, ODD, RING, all_answers, some_machines, words

# All that takes a machine, called with it and with other arguments that are allowed.
CALLS = {
    "answers": lambda machine: answers(machine, 0, ()),
    "least_machine": least_machine,
    "late": late,
    "forgets": forgets,
    "late_word": late_word,
    "shows_late_word": lambda machine: shows_late_word(machine, None),
    "never_forgets": never_forgets,
    "shows_never_forgets": lambda machine: shows_never_forgets(machine, ((), 1, (0, 0), (0,))),
    "window": window,
    "window_answer": lambda machine: window_answer(machine, (0,) * 6),
    "window_table": window_table,
    "copies_needed": lambda machine: copies_needed(machine, 0, 1),
    "are_enough": lambda machine: are_enough(machine, 1, 0, 1),
    "most_pushed": lambda machine: most_pushed(machine, 1, 1),
    "least_room": lambda machine: least_room(machine, 1, 0),
    "fewest_of_all": lambda machine: fewest_of_all(machine, 0, 1),
    "course": lambda machine: course(machine, 1, (), ()),
    "wrong_votes": lambda machine: wrong_votes(machine, 1, (), ()),
    "story": lambda machine: story(machine, 1, 0, 1),
    "shows_story": lambda machine: shows_story(machine, 1, 0, 1, None),
    "Bench": lambda machine: Bench(machine, 1),
    "machine_text": machine_text,
    "word_text": lambda machine: word_text(machine, ()),
    "strikes_text": lambda machine: strikes_text(machine, 1, ()),
    "read_word": lambda machine: read_word(machine, ""),
    "read_strikes": lambda machine: read_strikes(machine, 1, ""),
    "tale": lambda machine: tale(machine, 1, (), ()),
    "are_heavy": lambda machine: are_heavy(machine, (1,), 0, 1),
    "lightest_side": lambda machine: lightest_side(machine, (1,), 0, 1),
    "heavy_story": lambda machine: heavy_story(machine, (1,), 0, 1),
    "shows_heavy_story": lambda machine: shows_heavy_story(machine, (1,), 0, 1, None),
    "right_chances": lambda machine: right_chances(machine, 1, (0, 1), (), ()),
    "mean_misses": lambda machine: mean_misses(machine, 1, (0, 1), (), ()),
    "clears": lambda machine: clears(machine, ()),
    "clearing_word": clearing_word,
    "parted_pair": parted_pair,
    "shows_parted_pair": lambda machine: shows_parted_pair(machine, None),
    "cleared_by": lambda machine: cleared_by(machine, 1, (), ()),
    "Desk": lambda machine: Desk(machine, 1),
}


def rows(height, width, item=0):
    return ((item,) * width,) * height


class WhatAMachineIs(unittest.TestCase):
    def wrong(self, part, machine):
        for name, call in CALLS.items():
            with self.subTest(name, machine=machine), self.assertRaises(BadMachine) as caught:
                call(machine)
            self.assertEqual(part, caught.exception.part)

    def right(self, machine):
        self.assertEqual((), answers(machine, 0, ()))
        for state in range(len(machine[0])):
            for letter in range(len(machine[0][0])):
                self.assertEqual((machine[1][state][letter],), answers(machine, state, (letter,)))

    def test_no_pair(self):
        for value in ODD:
            # These two are pairs, the fault of which is in their steps.
            if value not in (((), ()), (None, None)):
                self.wrong("machine", value)
        for value in (None, 0, 1, (), (rows(1, 1),), (rows(1, 1),) * 3, [rows(1, 1), rows(1, 1)], "ab"):
            self.wrong("machine", value)
        self.wrong("machine", {0: rows(1, 1), 1: rows(1, 1)})
        self.wrong("machine", [[[0]], [[0]]])

    def test_steps_that_are_no_tuple_of_rows(self):
        for value in ((), None, True, 0, 1, "", "a", "ab", [], [(0,)], {}, {0: (0,)}, {(0,): 0}, (None,), ((),)):
            self.wrong("steps", (value, rows(1, 1)))
        for row in ([], [0], None, 0, True, "", "a", {}, {0: 0}):
            self.wrong("steps", ((row,), rows(1, 1)))
            self.wrong("steps", (((0,), row), rows(2, 1)))
            self.wrong("steps", ((row, (0,)), rows(2, 1)))

    def test_numbers_of_states(self):
        for states in (1, 2, 3, 4, 5, 6):
            self.right((rows(states, 2, states - 1), rows(states, 2)))
        for states in (0, 7, 8, 4000):
            self.wrong("steps", (rows(states, 1), rows(states, 1)))
        self.wrong("steps", (rows(7, 1), rows(6, 1)))

    def test_numbers_of_letters(self):
        for letters in (1, 2, 3):
            self.right((rows(2, letters, 1), rows(2, letters)))
        for letters in (0, 4, 5, 4000):
            self.wrong("steps", (rows(2, letters), rows(2, letters)))
        self.wrong("steps", (rows(2, 4), rows(2, 3)))

    def test_unlike_numbers_of_letters(self):
        self.wrong("steps", (((0, 0), (0,)), ((0, 0), (0,))))
        self.wrong("steps", (((0,), (0, 0)), ((0,), (0, 0))))
        self.wrong("steps", (((0,), (0,), (0, 0, 0)), rows(3, 1)))
        self.wrong("steps", (((0, 0), ()), rows(2, 2)))
        self.wrong("steps", (((0, 0, 0), (0, 0, 0, 0)), rows(2, 3)))
        self.wrong("answers", (rows(2, 2), ((0, 0), (0,))))
        self.wrong("answers", (rows(2, 2), ((0,), (0, 0))))
        self.wrong("answers", (rows(2, 2), ((0, 0), (0, 0, 0))))
        self.wrong("answers", (rows(2, 1), ((0,), ())))

    def test_next_states(self):
        self.right((((1,), (0,)), rows(2, 1)))
        for state in (2, -1, -2, 6, 10 ** 30, -10 ** 30):
            self.wrong("steps", (((0,), (state,)), rows(2, 1)))
            self.wrong("steps", (((0, state), (1, 1)), rows(2, 2)))
        self.wrong("steps", (((1,),), ((0,),)))
        for state in (True, False, None, "0", "", (), (0,), [0], {}):
            self.wrong("steps", (((0,), (state,)), rows(2, 1)))
            self.wrong("steps", (((state, 0), (0, 0)), rows(2, 2)))

    def test_answers_from_0_to_9(self):
        for answer in range(10):
            self.right((rows(2, 2), ((0, answer), (answer, 9))))
        for answer in (-1, 10, 11, 10 ** 30, -10 ** 30, True, False, None, "0", "", (), (0,), [0], {}):
            self.wrong("answers", (rows(2, 2), ((0, 0), (0, answer))))
            self.wrong("answers", (rows(2, 2), ((answer, 0), (0, 0))))
            self.wrong("answers", (rows(1, 1), ((answer,),)))

    def test_answers_that_are_no_tuple_of_rows(self):
        for value in ((), None, True, 0, "", "ab", [], [(0,), (0,)], {}, {0: (0,), 1: (0,)}, (None, None)):
            self.wrong("answers", (rows(2, 1), value))
        for row in ([], [0], None, 0, True, "", "a", {}, {0: 0}, ((0,),), ()):
            self.wrong("answers", (rows(2, 1), (row, (0,))))
            self.wrong("answers", (rows(2, 1), ((0,), row)))

    def test_answers_for_other_numbers_of_states_or_letters(self):
        for height, width in ((1, 2), (3, 2), (2, 1), (2, 3), (0, 0), (7, 2), (2, 4)):
            self.wrong("answers", (rows(2, 2), rows(height, width)))

    def test_deep_and_ragged_tuples(self):
        self.wrong("steps", ((((0,),),), rows(1, 1)))
        self.wrong("steps", ((((0,), 0), (0, 0)), rows(2, 2)))
        self.wrong("steps", ((0, (0,)), rows(2, 1)))
        self.wrong("answers", (rows(1, 1), (((0,),),)))
        self.wrong("answers", (rows(2, 1), ((0,), 0)))
        deep = ()
        for _ in range(20000):
            deep = (deep,)
        self.wrong("machine", deep)
        self.wrong("steps", (deep, deep))
        self.wrong("answers", (rows(1, 1), deep))

    def test_the_first_word_that_names_what_is_wrong(self):
        self.wrong("machine", (rows(7, 1), rows(1, 1, 10), ()))
        self.wrong("steps", (rows(7, 1), rows(1, 1, 10)))
        self.wrong("steps", ((), ()))
        self.wrong("steps", (None, None))
        self.wrong("steps", (rows(1, 1, 5), None))


class Answers(unittest.TestCase):
    def test_examples(self):
        self.assertEqual((0, 1, 0, 1), answers(LAST, 0, (1, 0, 1, 1)))
        with self.assertRaises(BadState) as caught:
            answers(LAST, 2, ())
        self.assertEqual({}, vars(caught.exception))

    def test_words_of_no_letter_of_one_and_of_many(self):
        self.assertEqual((), answers(LAST, 0, ()))
        self.assertEqual((), answers(LAST, 1, ()))
        self.assertEqual([(0,), (0,), (1,), (1,)], [answers(LAST, state, (a,)) for state in (0, 1) for a in (0, 1)])
        self.assertEqual((1, 0, 1, 0, 1), answers(RING, 1, (0,) * 5))
        self.assertEqual((1, 9, 9, 4), answers(GREATEST, 0, (2, 1, 2, 0)))

    def test_all_short_words_from_all_states(self):
        for machine in NAMED + tuple(some_machines(1, 60)):
            for state in range(len(machine[0])):
                for word in words(len(machine[0][0]), 4):
                    self.assertEqual(all_answers(machine, state, word), answers(machine, state, word))

    def test_long_words(self):
        word = (0, 1, 1, 0) * 1000
        self.assertEqual((1,) + word[:3999], answers(LAST, 1, word))
        self.assertEqual((0, 1) * 2000, answers(RING, 0, (0,) * 4000))
        self.assertEqual((0, 1) * 1999 + (0,), answers(RING, 0, (0,) * 3999))
        for many in (4001, 5000):
            with self.subTest(many), self.assertRaises(BadLetters):
                answers(RING, 0, (0,) * many)

    def test_states_that_there_are_none_of(self):
        for state in (-1, -2, 2, 3, 10 ** 30, -10 ** 30, True, False, None, "", "0", (), (0,), [0], {}):
            with self.subTest(state=state), self.assertRaises(BadState):
                answers(LAST, state, (0,))
        with self.assertRaises(BadState):
            answers((((0,),), ((0,),)), 1, ())
        with self.assertRaises(BadState):
            answers(GREATEST, 6, ())
        self.assertEqual((9,), answers(GREATEST, 5, (0,)))

    def test_letters_that_there_are_none_of(self):
        for letter in (-1, -2, 2, 3, 10 ** 30, True, False, None, "", "0", "a", (), (0,), [0], {}):
            for word in ((letter,), (0, 0, letter), (letter, 1), (0,) * 3999 + (letter,)):
                with self.subTest(letter=letter, many=len(word)), self.assertRaises(BadLetters):
                    answers(LAST, 0, word)
        with self.assertRaises(BadLetters):
            answers(RING, 0, (1,))
        with self.assertRaises(BadLetters):
            answers(GREATEST, 0, (3,))

    def test_what_is_no_word(self):
        for word in (None, True, 0, 1, "", "a", "01", [], [0], {}, {0: 0}, ((),), ((0,),)):
            with self.subTest(word=word), self.assertRaises(BadLetters):
                answers(LAST, 0, word)


if __name__ == "__main__":
    unittest.main()
