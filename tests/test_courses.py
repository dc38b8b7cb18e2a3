"""Point 7: strikes, courses and votes, held against a slow course."""

from random import Random
import unittest

from pushedclerks.courses import course, wrong_votes
from pushedclerks.errors import BadLetters, BadMachine, BadNumber, BadStrikes
from tests.small import (
    APART, ASIDE, CHAIN, GREATEST, LAST, LONGEST, NAMED, NO_NUMBERS, ODD, RING, all_answers, all_strikes, letters_of,
    slow_course, some_machines, some_strikes, words,
)

BOTH = (course, wrong_votes)
# One strike that is right, on three copies of LAST.
RIGHT = (1, ((0, 1), (2, 0)))


class Examples(unittest.TestCase):
    def test_them(self):
        strikes = ((0, ((1, 1),)),)
        self.assertEqual(((0, (0, 1), None), (1, (1, 1), 1)), course(LAST, 2, (1, 0), strikes))
        self.assertEqual((0,), wrong_votes(LAST, 2, (1, 0), strikes))
        with self.assertRaises(BadStrikes) as caught:
            course(LAST, 2, (), ((0, ()),))
        self.assertEqual({"index": 0}, vars(caught.exception))


class Strikes(unittest.TestCase):
    def wrong(self, index, strikes, machine=LAST, copies=3):
        for call in BOTH:
            # No word is so short that a strike behind it needn't be right.
            for word in ((), (0,), (0,) * 4000):
                with self.subTest(strikes=repr(strikes)[:200]), self.assertRaises(BadStrikes) as caught:
                    call(machine, copies, word, strikes)
                self.assertEqual({"index": index}, vars(caught.exception))

    def right(self, strikes, machine=LAST, copies=3):
        for word in ((), (0,), (0,) * 5):
            self.assertEqual(len(word), len(course(machine, copies, word, strikes)))

    def test_right_ones(self):
        self.right(())
        self.right((RIGHT,))
        self.right(((0, ((0, 0),)), (1, ((0, 0), (1, 1), (2, 0))), (4, ((2, 1),)), (4000, ((1, 0),))))
        self.right(((4000, tuple((copy, 5) for copy in range(99))),), GREATEST, 99)
        self.right(((0, ((98, 5),)), (1, ((0, 0), (98, 0)))), GREATEST, 99)
        self.right(((0, ((0, 0),)),), (((0,),), ((0,),)), 1)

    def test_no_tuple(self):
        for value in ODD + NO_NUMBERS + (None, [RIGHT], {0: RIGHT}, "strikes", [], {}):
            if not isinstance(value, tuple):
                self.wrong(None, value)

    def test_tuples_of_other_things(self):
        for value in ODD + NO_NUMBERS:
            if isinstance(value, tuple) and value != ():
                self.wrong(0, value)
            self.wrong(0, (value,))
            self.wrong(1, (RIGHT, value))
            self.wrong(1, (RIGHT, value, RIGHT))

    def test_too_many(self):
        many = tuple((place, ((place & 1, 1),)) for place in range(4001))
        self.right(many[:4000])
        self.right(many[1:])
        self.wrong(None, many)
        self.wrong(None, ((),) * 4001)
        self.wrong(None, (RIGHT,) * 5000)
        self.wrong(0, ((),) * 4000)
        self.wrong(1, (RIGHT,) * 4000)
        self.wrong(3999, many[:3999] + ((3998, ((0, 1),)),))

    def test_no_pairs(self):
        place, pushes = RIGHT
        for strike in ((), (place,), (place, pushes, 0), (pushes, place), [place, pushes], {place: pushes}, place):
            self.wrong(0, (strike,))
            self.wrong(1, ((0, pushes), strike, (4, pushes)))

    def test_places(self):
        for place in NO_NUMBERS + (4001, 4002):
            self.wrong(0, ((place, ((0, 1),)),))
            self.wrong(1, (RIGHT, (place, ((0, 1),))))
        self.right(((0, ((0, 1),)), (4000, ((0, 1),))))

    def test_places_that_do_not_rise(self):
        def at(*places):
            return tuple((place, ((0, 1),)) for place in places)

        self.right(at(0, 1, 2, 3, 100, 3999, 4000))
        self.wrong(1, at(0, 0))
        self.wrong(1, at(1, 0))
        self.wrong(1, at(4000, 4000))
        self.wrong(2, at(0, 5, 5, 6))
        self.wrong(2, at(0, 5, 4, 3))
        self.wrong(3, at(0, 5, 6, 1, 7))
        # The wrong one is the one that doesn't rise, not the one ahead of it.
        self.wrong(2, at(0, 9, 8, 10))

    def test_pushes(self):
        for pushes in (
                (), ((1, 0), (0, 0)), ((0, 0), (2, 0), (1, 0)), ((1, 0), (1, 0)), ((1, 0), (1, 1)), ((1, 1), (1, 0)),
                ((0, 0), (1, 1), (1, 1)), ((0, 0), (1, 0), (2, 0), (2, 1)), ((0, 0), (1, 0), (2, 0), (3, 0)),
                ((0,),), ((0, 0, 0),), ((),), (0, 0), ((0, 0), ()), ((0, 0), 1), ((0, 0), (1,)), ((0, 0), (1, 0, 0)),
                [(0, 0)], ([0, 0],), ((0, 0), [1, 0]), {0: 0}, ({0: 0},), "0", ("00",), None, (None,), True):
            self.wrong(0, ((0, pushes),))
            self.wrong(1, (RIGHT, (2, pushes), (3, ((0, 0),))))
            self.wrong(1, (RIGHT, (4000, pushes)))

    def test_copies_that_there_are_none_of(self):
        for copy in NO_NUMBERS + (3, 99):
            self.wrong(0, ((0, ((copy, 0),)),))
            self.wrong(1, (RIGHT, (2, ((0, 0), (copy, 0)))))
            self.wrong(1, (RIGHT, (2, ((copy, 0), (2, 0)))))
        for copies in (1, 2, 98, 99):
            self.right(((0, ((copies - 1, 0),)),), LAST, copies)
            self.wrong(0, ((0, ((copies, 0),)),), LAST, copies)

    def test_states_that_there_are_none_of(self):
        for state in NO_NUMBERS + (2, 6):
            self.wrong(0, ((0, ((1, state),)),))
            self.wrong(1, (RIGHT, (2, ((0, 0), (1, state), (2, 0)))))
        for machine in (LAST, ASIDE, CHAIN, GREATEST):
            states = len(machine[0])
            self.right(((0, ((0, states - 1),)),), machine, 1)
            self.wrong(0, ((0, ((0, states),)),), machine, 1)

    def test_the_first_of_several(self):
        self.wrong(1, (RIGHT, (2, ()), (1, ()), None))
        self.wrong(0, (None, (2, ()), (1, ()), None))
        self.wrong(2, (RIGHT, (2, ((0, 0),)), (2, ((0, 0),)), (1, ()), None))

    def test_deep_tuples(self):
        deep = ()
        for _ in range(20000):
            deep = (deep,)
        for call in BOTH:
            for strikes in (deep, (deep,), ((0, deep),), ((deep, ((0, 0),)),), ((0, ((0, deep),)),)):
                with self.assertRaises(BadStrikes) as caught:
                    call(LAST, 3, (), strikes)
                self.assertEqual(0, caught.exception.index)


class OtherArguments(unittest.TestCase):
    def test_numbers_of_copies(self):
        for call in BOTH:
            for copies in NO_NUMBERS + (0, 100):
                with self.subTest(copies=copies), self.assertRaises(BadNumber) as caught:
                    call(LAST, copies, (0,), ())
                self.assertEqual({}, vars(caught.exception))

    def test_words(self):
        for call in BOTH:
            for word in (
                    None, True, 0, 1, "", "01", [], [0], {}, {0: 0}, ((),), ((0,),),
                    (2,), (-1,), (0, True), (0, None), (10 ** 30,), (0,) * 4001):
                with self.subTest(word=repr(word)[:50]), self.assertRaises(BadLetters) as caught:
                    call(LAST, 3, word, ())
                self.assertEqual({}, vars(caught.exception))

    def test_machines(self):
        for call in BOTH:
            for wrong, part in (((), "machine"), (((), ()), "steps"), ((((0,),), ((10,),)), "answers")):
                with self.assertRaises(BadMachine) as caught:
                    call(wrong, 0, (9,), None)
                self.assertEqual(part, caught.exception.part)


class Courses(unittest.TestCase):
    def against_the_words(self, machine, copies, word, strikes):
        slow = slow_course(machine, copies, word, strikes)
        found = course(machine, copies, word, strikes)
        self.assertEqual(slow, found, (machine, copies, word, strikes))
        self.assertEqual([(tuple, tuple)] * len(word), [(type(row), type(row[1])) for row in found])
        wrong = tuple(place for place, (right, _, vote) in enumerate(slow) if vote != right)
        self.assertEqual(wrong, wrong_votes(machine, copies, word, strikes))

    def test_all_short_words_and_all_strikes(self):
        for machine, copies, longest in ((LAST, 2, 2), (RING, 3, 2), (ASIDE, 2, 3), (CHAIN, 1, 3)):
            # Strikes at a place behind the word are among them.
            for strikes in all_strikes(machine, copies, copies, 1, longest):
                for word in words(letters_of(machine), longest):
                    self.against_the_words(machine, copies, word, strikes)

    def test_more_words_and_strikes(self):
        chance = Random(61)
        for machine in NAMED * 8 + tuple(some_machines(62, 300)):
            copies = chance.choice((1, 2, 3, 4, 5, 8, 9))
            word = tuple(chance.randrange(letters_of(machine)) for _ in range(chance.randint(0, 12)))
            self.against_the_words(machine, copies, word, some_strikes(chance, machine, copies, 14))

    def test_nobody_pushed(self):
        for machine in NAMED:
            for copies in (1, 2, 99):
                for word in words(letters_of(machine), 3):
                    told = tuple((right, (right,) * copies, right) for right in all_answers(machine, 0, word))
                    self.assertEqual(told, course(machine, copies, word, ()))
                    self.assertEqual((), wrong_votes(machine, copies, word, ()))

    def test_no_letter(self):
        for copies in (1, 99):
            for strikes in ((), ((0, ((0, 1),)),), ((0, ((0, 1),)), (4000, ((0, 0),)))):
                self.assertEqual((), course(LAST, copies, (), strikes))
                self.assertEqual((), wrong_votes(LAST, copies, (), strikes))

    def test_strikes_behind_the_word(self):
        for behind in (2, 3, 4000):
            strikes = ((0, ((1, 1),)), (behind, ((0, 1), (1, 1))))
            self.assertEqual(((0, (0, 1), None), (1, (1, 1), 1)), course(LAST, 2, (1, 0), strikes))
            self.assertEqual((0,), wrong_votes(LAST, 2, (1, 0), strikes))

    def test_a_strike_ahead_of_its_letter(self):
        self.assertEqual((1,), wrong_votes(LAST, 1, (0, 0, 0), ((1, ((0, 1),)),)))
        self.assertEqual((2,), wrong_votes(LAST, 1, (0, 0, 0), ((2, ((0, 1),)),)))
        self.assertEqual((), wrong_votes(LAST, 1, (0, 0, 0), ((3, ((0, 1),)),)))
        # One strike after the other on the same copy.
        self.assertEqual((1, 2), wrong_votes(RING, 1, (0,) * 5, ((1, ((0, 0),)), (3, ((0, 1),)))))

    def test_pushed_into_the_state_that_it_is_in(self):
        self.assertEqual((), wrong_votes(RING, 1, (0,) * 5, tuple((place, ((0, place & 1),)) for place in range(5))))


class Votes(unittest.TestCase):
    def votes(self, *into):
        """The vote of copies in these states of a machine that tells its state."""
        machine = (((0,), (1,), (2,), (3,), (4,), (5,)), ((7,), (1,), (2,), (3,), (4,), (9,)))
        strikes = ((0, tuple(enumerate(into))),)
        ((right, given, vote),) = course(machine, len(into), (0,), strikes)
        self.assertEqual(7, right)
        self.assertEqual(tuple(machine[1][state][0] for state in into), given)
        self.assertEqual(() if vote == 7 else (0,), wrong_votes(machine, len(into), (0,), strikes))
        return vote

    def test_more_than_half(self):
        self.assertEqual(7, self.votes(0))
        self.assertEqual(9, self.votes(5))
        self.assertEqual(9, self.votes(5, 5))
        self.assertEqual(1, self.votes(1, 5, 1))
        self.assertEqual(9, self.votes(5, 1, 5))
        self.assertEqual(7, self.votes(0, 0, 0, 1, 2))
        self.assertEqual(2, self.votes(2, 1, 2, 4, 2))
        self.assertEqual(3, self.votes(1, 3, 3, 3, 2))
        self.assertEqual(4, self.votes(4, 4, 1, 4, 4, 1))

    def test_none(self):
        self.assertIsNone(self.votes(0, 5))
        self.assertIsNone(self.votes(0, 1, 2))
        self.assertIsNone(self.votes(0, 0, 1, 1))
        self.assertIsNone(self.votes(0, 0, 1, 2))
        self.assertIsNone(self.votes(1, 3, 3, 5))
        self.assertIsNone(self.votes(0, 0, 1, 1, 5))
        self.assertIsNone(self.votes(0, 1, 2, 3, 4, 5))
        self.assertIsNone(self.votes(0, 0, 0, 1, 2, 3))

    def test_99_copies(self):
        self.assertEqual(7, self.votes(*(0,) * 50, *(1,) * 49))
        self.assertEqual(1, self.votes(*(0,) * 49, *(1,) * 50))
        self.assertIsNone(self.votes(*(0,) * 49, *(1,) * 49, 2))
        self.assertIsNone(self.votes(*(0,) * 49, *(1,) * 49))


class LongWords(unittest.TestCase):
    def test_4000_letters_and_99_copies(self):
        # LAST answers the letter before, but right behind a push.
        word = tuple(letter for _ in range(500) for letter in (0, 1, 1, 0, 1, 0, 0, 1))
        right = (0,) + word[:-1]
        pushed = {at: tuple((copy, 1) for copy in range(50 - at % 2)) for at in range(0, 4001, 3)}
        told = []
        for place, answer in enumerate(right):
            many = len(pushed.get(place, ()))
            given = (1,) * many + (answer,) * (99 - many)
            told.append((answer, given, 1 if given.count(1) > 49 else 0))
        self.assertEqual(tuple(told), course(LAST, 99, word, tuple(pushed.items())))
        wrong = tuple(place for place in range(0, 4000, 6) if right[place] == 0)
        self.assertEqual(wrong, wrong_votes(LAST, 99, word, tuple(pushed.items())))

    def test_a_push_that_lasts(self):
        strikes = ((1000, ((0, 1), (1, 1))), (3000, ((0, 0),)))
        found = course(RING, 3, (0,) * 4000, strikes)
        for place in (0, 1, 999, 1000, 1001, 2999, 3000, 3001, 3999):
            odd = place & 1
            given = (odd, odd, odd)
            if place >= 1000:
                given = (1 - odd, 1 - odd, odd) if place < 3000 else (odd, 1 - odd, odd)
            self.assertEqual((odd, given, 1 - odd if 1000 <= place < 3000 else odd), found[place])
        self.assertEqual(tuple(range(1000, 3000)), wrong_votes(RING, 3, (0,) * 4000, strikes))

    def test_4000_strikes(self):
        strikes = tuple((place, ((0, 0), (98, 0))) for place in range(4000))
        found = course(RING, 99, (0,) * 4000, strikes)
        for place, (right, given, vote) in enumerate(found):
            self.assertEqual((place & 1, (0,) + (place & 1,) * 97 + (0,), place & 1), (right, given, vote))

    def test_other_machines(self):
        for machine in (APART, LONGEST, GREATEST):
            word = tuple(place * place % letters_of(machine) for place in range(4000))
            found = course(machine, 2, word, ((3990, ((1, 2),)),))
            self.assertEqual(slow_course(machine, 2, word[:20], ()), found[:20])
            states = [0]
            for letter in word:
                states.append(machine[0][states[-1]][letter])
            self.assertEqual(machine[1][states[3999]][word[3999]], found[3999][0])
            aside = 2
            for letter in word[3990:3999]:
                aside = machine[0][aside][letter]
            self.assertEqual((found[3999][0], machine[1][aside][word[3999]]), found[3999][1])


if __name__ == "__main__":
    unittest.main()
