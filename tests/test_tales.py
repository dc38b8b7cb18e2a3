"""Point 41: tales, held against lines of the tests' own."""

from random import Random
import unittest

from pushedclerks.courses import wrong_votes
from pushedclerks.errors import BadLetters, BadMachine, BadNumber, BadStrikes
from pushedclerks.tales import tale
from tests.small import (
    ASIDE, CHAIN, GREATEST, LAST, NAMED, NO_NUMBERS, RING, SILENT, all_strikes, letters_of, slow_letter, some_machines,
    some_strikes, words,
)


def slow_tale(machine, copies, word, strikes):
    """The words of point 41, letter by letter."""
    told, misses = "", 0
    for place, letter in enumerate(word):
        for at, pushes in strikes:
            if at == place:
                told += "push "
                for number, (copy, state) in enumerate(pushes):
                    told += (", " if number else "") + str(copy) + " to " + str(state)
                told += "\n"
        right, given, vote = slow_letter(machine, copies, word, strikes, place)
        told += chr(ord("a") + letter) + ": "
        if vote is None:
            told += "no vote"
        else:
            told += str(sum(answer == vote for answer in given)) + " of " + str(copies) + " say " + str(vote)
        if vote != right:
            misses += 1
            told += ", wrong, " + str(right)
        told += "\n"
    return told + "misses " + str(misses) + "\n"


class Tales(unittest.TestCase):
    def against_the_words(self, machine, copies, word, strikes):
        found = tale(machine, copies, word, strikes)
        self.assertEqual(slow_tale(machine, copies, word, strikes), found)
        self.assertTrue(found.endswith(f"misses {len(wrong_votes(machine, copies, word, strikes))}\n"))

    def test_example(self):
        self.assertEqual(
            "push 0 to 1, 1 to 1\nb: 2 of 3 say 1, wrong, 0\na: 3 of 3 say 1\nmisses 1\n",
            tale(LAST, 3, (1, 0), ((0, ((0, 1), (1, 1))),)))

    def test_no_letter(self):
        for copies in (1, 99):
            for strikes in ((), ((0, ((0, 1),)),), ((0, ((0, 1),)), (4000, ((0, 0),)))):
                self.assertEqual("misses 0\n", tale(LAST, copies, (), strikes))

    def test_nobody_pushed(self):
        self.assertEqual("a: 1 of 1 say 0\nmisses 0\n", tale(LAST, 1, (0,), ()))
        self.assertEqual("c: 99 of 99 say 5\nb: 99 of 99 say 5\nmisses 0\n", tale(SILENT, 99, (2, 1), ()))

    def test_strikes_ahead_of_letters_and_behind_the_word(self):
        strikes = ((1, ((0, 1),)), (2, ((0, 0), (1, 0))), (3, ((2, 1),)), (4000, ((1, 1),)))
        self.assertEqual(
            "a: 3 of 3 say 0\n"
            "push 0 to 1\na: 2 of 3 say 0\n"
            "push 0 to 0, 1 to 0\nb: 3 of 3 say 0\nmisses 0\n", tale(LAST, 3, (0, 0, 1), strikes))
        # Just ahead of the letter that isn't there.
        self.assertEqual("a: 1 of 1 say 0\nmisses 0\n", tale(RING, 1, (0,), ((1, ((0, 0),)),)))
        self.assertEqual(
            "a: 1 of 1 say 0\npush 0 to 0\na: 1 of 1 say 0, wrong, 1\nmisses 1\n",
            tale(RING, 1, (0, 0), ((1, ((0, 0),)),)))

    def test_no_vote(self):
        strikes = ((1, ((1, 1),)),)
        self.assertEqual(
            "b: 2 of 2 say 0\npush 1 to 1\nb: 2 of 2 say 1\nmisses 0\n", tale(LAST, 2, (1, 1), strikes))
        self.assertEqual(
            "a: 2 of 2 say 0\npush 1 to 1\nb: no vote, wrong, 0\na: 2 of 2 say 1\nmisses 1\n",
            tale(LAST, 2, (0, 1, 0), strikes))
        self.assertEqual(
            "push 1 to 1, 2 to 2\na: no vote, wrong, 0\nmisses 1\n", tale(GREATEST, 3, (0,), ((0, ((1, 1), (2, 2))),)))

    def test_99_copies(self):
        for many, line in ((1, "98 of 99 say 0"), (49, "50 of 99 say 0"), (50, "50 of 99 say 1, wrong, 0")):
            pushes = tuple((98 - copy, 1) for copy in range(many))[::-1]
            told = ", ".join(f"{copy} to 1" for copy in range(99 - many, 99))
            self.assertEqual(
                f"push {told}\na: {line}\nmisses {1 if many == 50 else 0}\n", tale(RING, 99, (0,), ((0, pushes),)))

    def test_pushed_into_the_state_that_it_is_in(self):
        self.assertEqual("push 0 to 0\na: 1 of 1 say 0\nmisses 0\n", tale(LAST, 1, (0,), ((0, ((0, 0),)),)))

    def test_4000_letters(self):
        strikes = ((1000, ((0, 0), (1, 0))), (3998, ((1, 0),)), (4000, ((0, 1),)))
        told = tale(RING, 2, (0,) * 4000, ((1, ((1, 0),)),) + strikes)
        self.assertEqual(slow_tale(RING, 2, (0,) * 9, ((1, ((1, 0),)),)).splitlines()[:9], told.splitlines()[:9])
        lines = [f"a: 2 of 2 say {place % 2}" for place in range(4000)]
        for place in range(1, 4000):
            lines[place] = f"a: no vote, wrong, {place % 2}"
        lines[1] = "push 1 to 0\n" + lines[1]
        # At an even place state 0 is right.
        for place in range(1000, 4000):
            lines[place] = f"a: 2 of 2 say {place % 2}"
        lines[1000] = "push 0 to 0, 1 to 0\n" + lines[1000]
        lines[3998] = "push 1 to 0\n" + lines[3998]
        self.assertEqual("\n".join(lines) + "\nmisses 999\n", told)

    def test_all_short_words_and_all_strikes(self):
        for machine, copies, longest in ((LAST, 2, 2), (RING, 3, 2), (ASIDE, 2, 2), (CHAIN, 1, 3)):
            for strikes in all_strikes(machine, copies, copies, 1, longest):
                for word in words(letters_of(machine), longest):
                    self.against_the_words(machine, copies, word, strikes)

    def test_more_words_and_strikes(self):
        chance = Random(121)
        for machine in NAMED * 8 + tuple(some_machines(122, 300)):
            copies = chance.choice((1, 2, 3, 4, 5, 8, 99))
            word = tuple(chance.randrange(letters_of(machine)) for _ in range(chance.randint(0, 12)))
            self.against_the_words(machine, copies, word, some_strikes(chance, machine, copies, 14))


class Arguments(unittest.TestCase):
    def fails(self, error, fields, *values):
        with self.subTest(values=repr(values)[:80]), self.assertRaises(error) as caught:
            tale(*values)
        self.assertEqual(fields, vars(caught.exception))

    def test_in_their_sequence(self):
        for machine, part in (((), "machine"), (((), ()), "steps"), ((((0,),), ((10,),)), "answers")):
            self.fails(BadMachine, {"part": part}, machine, 0, (9,), None)
        for copies in NO_NUMBERS + (0, 100):
            self.fails(BadNumber, {}, LAST, copies, (9,), None)
        for word in (None, True, 0, "", "ab", [], [0], {}, ((),), (2,), (-1,), (0, True), (0,) * 4001):
            self.fails(BadLetters, {}, LAST, 3, word, None)
        for strikes in (None, True, 0, "", [], {}, ((),) * 4001):
            for word in ((), (0, 1)):
                self.fails(BadStrikes, {"index": None}, LAST, 3, word, strikes)
        for strike in (None, True, (), (0,), (0, ()), (0, ((3, 0),)), (0, ((0, 2),)), (4001, ((0, 0),))):
            for word in ((), (0, 1)):
                self.fails(BadStrikes, {"index": 0}, LAST, 3, word, (strike,))
                self.fails(BadStrikes, {"index": 1}, LAST, 3, word, ((0, ((0, 1),)), strike))


if __name__ == "__main__":
    unittest.main()
