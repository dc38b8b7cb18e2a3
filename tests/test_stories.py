"""Point 8: stories, and what shows_story tells of them, held against the document's words."""

from itertools import product
from random import Random
import unittest

from pushedclerks.clerks import are_enough, copies_needed
from pushedclerks.courses import course, shows_story, story, wrong_votes
from pushedclerks.errors import BadMachine, BadNumber
from pushedclerks.lates import late, late_word, never_forgets
from pushedclerks.windows import window
from tests.small import (
    APART, ASIDE, CHAIN, GREATEST, LAST, LONGEST, NAMED, NO_NUMBERS, ODD, ONLY_BY_ASIDE, RING, SILENT, all_strikes,
    is_story, lead, letters_of, small_machines, some_machines, some_strikes, words,
)

ENDLESS = (RING, APART, GREATEST)
NO_LATE_WORD = (SILENT, (((0,),), ((9,),)), (((1,), (0,)), ((4,), (4,))))
# It takes six letters to come to state 5, which alone leads to itself for ever.
FAR_ROUND = (((1,), (2,), (3,), (4,), (5,), (5,)), ((0,), (0,), (0,), (0,), (0,), (1,)))


def put_together(machine, way, state, word, copies, pushed, room):
    """A story by a late word that has room for all strikes: as late as can be, half of the copies are pushed."""
    half = (copies + 1) // 2
    strikes, place = [], len(word) - 1
    while half > 0:
        into = lead(machine, state, word[:place])
        strikes.insert(0, (len(way) + place, tuple((copy, into) for copy in range(max(half - pushed, 0), half))))
        half, place = half - pushed, place - room
    return way + word, tuple(strikes)


class Base(unittest.TestCase):
    def right_story(self, machine, copies, pushed, room):
        """What story returns is a story, of values of the kinds that the document names."""
        told = story(machine, copies, pushed, room)
        where = (machine, copies, pushed, room)
        self.assertIs(True, shows_story(machine, copies, pushed, room, told), where)
        if are_enough(machine, copies, pushed, room):
            self.assertIsNone(told, where)
            return
        self.assertIs(tuple, type(told))
        word, strikes = told
        self.assertEqual({tuple}, {type(word), type(strikes)})
        self.assertTrue(all(type(letter) is int and 0 <= letter < letters_of(machine) for letter in word))
        # It raises an error for what is no word or no strikes.
        wrong = wrong_votes(machine, copies, word, strikes)
        self.assertEqual(len(word) - 1, wrong[-1], where)
        self.assertTrue(is_story(machine, copies, pushed, room, word, strikes), where)
        self.assertIs(False, shows_story(machine, copies, pushed, room, None), where)

    def yes(self, arguments, *values):
        for number, value in enumerate(values):
            self.assertIs(True, shows_story(*arguments, value), (arguments, number))

    def no(self, arguments, *values):
        for number, value in enumerate(values):
            self.assertIs(False, shows_story(*arguments, value), (arguments, number))


class Stories(Base):
    def test_examples(self):
        self.assertIsNone(story(LAST, 3, 1, 1))
        self.yes((LAST, 2, 1, 1), ((0,), ((0, ((0, 1),)),)))

    def test_none_just_where_the_copies_are_enough(self):
        for machine in NAMED + (LONGEST, ONLY_BY_ASIDE):
            for pushed, room in ((0, 1), (0, 60), (1, 1), (1, 2), (2, 3), (9, 60)):
                needed = copies_needed(machine, pushed, room)
                for copies in (1, 2, 3, 4, 5, 6, 7, 8, 18, 19, 98, 99):
                    none = needed is not None and copies >= needed
                    self.assertIs(none, story(machine, copies, pushed, room) is None)

    def test_nobody_pushed_and_nobody_late(self):
        for machine in NAMED:
            self.assertIsNone(story(machine, 1, 0, 1))
            self.assertIsNone(story(machine, 99, 0, 60))
        for machine in NO_LATE_WORD:
            for copies, pushed, room in product((1, 99), range(10), (1, 60)):
                self.assertIsNone(story(machine, copies, pushed, room))

    def test_machines_that_forget(self):
        for machine in (LAST, ASIDE, ONLY_BY_ASIDE, CHAIN, LONGEST):
            for copies, pushed, room in product(tuple(range(1, 12)) + (37, 54, 90, 91, 99), range(1, 10), range(1, 8)):
                self.right_story(machine, copies, pushed, room)

    def test_machines_that_do_not_forget(self):
        for machine in ENDLESS:
            for copies, pushed, room in product((1, 2, 3, 4, 10, 11), (1, 2, 3, 9), (1, 2, 3, 7, 60)):
                self.right_story(machine, copies, pushed, room)

    def test_99_copies(self):
        for machine in ENDLESS + (FAR_ROUND,):
            for copies, pushed, room in product((98, 99), (1, 4, 9), (1, 59, 60)):
                self.right_story(machine, copies, pushed, room)

    def test_all_numbers_pushed_and_all_rooms(self):
        for pushed in range(1, 10):
            for room in range(1, 61):
                self.right_story(RING, 7, pushed, room)
                self.right_story(LONGEST, 7, pushed, room)

    def test_more_machines(self):
        chance = Random(71)
        for machine in small_machines()[::3] + some_machines(72, 300):
            for _ in range(4):
                copies = chance.choice((1, 2, 3, 4, 5, 6, 9, 20))
                self.right_story(machine, copies, chance.randint(0, 9), chance.choice((1, 1, 2, 3, 4, 5, 60)))

    def test_the_longest_stories(self):
        machines = [machine for machine in some_machines(73, 400) if late(machine) is None]
        for machine in machines[:40]:
            word, strikes = story(machine, 99, 1, 60)
            self.assertLessEqual(len(word), 4000)
            self.assertTrue(is_story(machine, 99, 1, 60, word, strikes))


class LateWordsAndRounds(Base):
    def test_late_words_make_stories(self):
        many = 0
        for machine in NAMED + (LONGEST, ONLY_BY_ASIDE) + tuple(some_machines(74, 200)):
            if not late(machine):
                continue
            way, state, word = late_word(machine)
            self.assertEqual(len(word) + 1, window(machine))
            for pushed, room in ((1, 1), (1, 2), (2, 1), (3, 4), (9, 60)):
                for copies in range(1, min(copies_needed(machine, pushed, room), 100)):
                    many += 1
                    value = put_together(machine, way, state, word, copies, pushed, room)
                    self.yes((machine, copies, pushed, room), value)
                    # With a room that is greater there may be no strike so near to another one.
                    if len(value[1]) > 1:
                        self.no((machine, copies, pushed, room + 1), value)
        self.assertGreater(many, 500)

    def test_rounds_make_stories(self):
        many = 0
        for machine in NAMED + (FAR_ROUND,) + tuple(some_machines(75, 200)):
            if late(machine) is not None:
                continue
            way, state, again, last = never_forgets(machine)
            for copies, pushed, room in ((1, 1, 1), (2, 1, 60), (9, 1, 7), (20, 3, 20), (99, 9, 60)):
                many += 1
                word = again * (room * copies // pushed + 1) + last
                self.yes((machine, copies, pushed, room), put_together(machine, way, state, word, copies, pushed, room))
        self.assertGreater(many, 100)


class Shown(Base):
    def test_all_short_words_and_all_strikes(self):
        for machine, copies, longest in ((LAST, 1, 2), (LAST, 2, 2), (RING, 1, 3), (RING, 2, 2), (ASIDE, 2, 2)):
            choices = [
                (pushed, room, are_enough(machine, copies, pushed, room))
                for pushed, room in ((0, 1), (1, 1), (2, 1), (1, 2), (1, 3), (9, 2))
            ]
            # Strikes that are too near, push too many or stand behind the word are among them.
            for strikes in all_strikes(machine, copies, copies, 1, longest + 1):
                for word in words(letters_of(machine), longest):
                    for pushed, room, enough in choices:
                        right = not enough and is_story(machine, copies, pushed, room, word, strikes)
                        found = shows_story(machine, copies, pushed, room, (word, strikes))
                        self.assertIs(right, found, (machine, copies, pushed, room, word, strikes))

    def test_more_words_and_strikes(self):
        chance, shown = Random(76), {True: 0, False: 0}
        for machine in NAMED * 60 + tuple(some_machines(77, 600)):
            copies = chance.choice((1, 2, 3, 4, 5, 6))
            pushed, room = chance.randint(1, 6), chance.choice((1, 1, 2, 3))
            if are_enough(machine, copies, pushed, room):
                continue
            word = tuple(chance.randrange(letters_of(machine)) for _ in range(chance.randint(0, 8)))
            strikes = some_strikes(chance, machine, copies, 9)
            right = is_story(machine, copies, pushed, room, word, strikes)
            shown[right] += 1
            self.assertIs(right, shows_story(machine, copies, pushed, room, (word, strikes)))
        self.assertGreater(min(shown.values()), 50)

    def test_none_where_the_copies_are_enough(self):
        wrong = (False, 0, "", (), ((), ()), ((0,), ()), ((0,), ((0, ((0, 1),)),)))
        for arguments in ((LAST, 3, 1, 1), (LAST, 1, 0, 1), (RING, 1, 0, 1), (RING, 99, 0, 60), (LAST, 99, 9, 60)):
            self.yes(arguments, None)
            self.no(arguments, *wrong, *ODD)
        self.yes((SILENT, 1, 9, 1), None)
        self.no((SILENT, 1, 9, 1), *wrong, *ODD)
        for arguments in ((LAST, 2, 1, 1), (LAST, 18, 9, 60), (RING, 1, 1, 1), (RING, 99, 1, 60), (CHAIN, 6, 1, 1)):
            self.no(arguments, None)

    def test_the_last_letter_counts(self):
        arguments = (LAST, 2, 1, 1)
        self.yes(arguments, ((0,), ((0, ((0, 1),)),)), ((0, 0), ((1, ((0, 1),)),)), ((1, 1), ((1, ((1, 0),)),)))
        self.no(arguments, ((0, 0), ((0, ((0, 1),)),)), ((0,), ()), ((0,), ((0, ((0, 0),)),)), ((0, 1), ()))
        # Wrong at the letter ahead too, and at it alone.
        self.yes(arguments, ((0, 0), ((0, ((0, 1),)), (1, ((0, 1),)))))
        self.no(arguments, ((0, 0), ((0, ((0, 1),)), (1, ((0, 0),)))))

    def test_a_vote_for_another_answer_and_none(self):
        self.yes((LAST, 3, 2, 1), ((0,), ((0, ((0, 1), (1, 1))),)), ((0,), ((0, ((1, 1), (2, 1))),)))
        self.no((LAST, 3, 2, 1), ((0,), ((0, ((0, 1),)),)), ((0,), ((0, ((0, 1), (2, 0))),)))
        self.yes((LAST, 4, 2, 1), ((0,), ((0, ((0, 1), (1, 1))),)))
        self.yes((LAST, 4, 9, 1), ((0,), ((0, ((0, 1), (1, 1), (2, 1), (3, 1))),)))

    def test_strikes_that_need_not_be(self):
        arguments = (CHAIN, 2, 1, 2)
        needed = ((4, ((1, 3),)),)
        word = (0, 0, 0, 1, 1)
        self.yes(arguments, (word, needed))
        self.yes(arguments, (word, ((0, ((0, 0),)), (2, ((1, 3),))) + needed))
        # Behind the word.
        self.yes(arguments, (word, needed + ((6, ((0, 0),)), (8, ((0, 3),)), (4000, ((1, 1),)))))
        self.no(arguments, (word, needed + ((4001, ((0, 0),)),)))
        self.no(arguments, (word, needed + ((5, ((0, 0),)),)), (word, needed + ((6, ((0, 0),)), (7, ((0, 3),)))))
        self.no(arguments, (word, needed + ((6, ((0, 0), (1, 0))),)))

    def test_the_room(self):
        def strikes(*places):
            return tuple((place, ((copy, 1 - place % 2),)) for copy, place in enumerate(places))

        word = (0,) * 9
        self.yes((RING, 4, 1, 3), (word, strikes(2, 5)), (word, strikes(0, 8)), (word, strikes(0, 3, 6)))
        self.no((RING, 4, 1, 3), (word, strikes(2, 4)), (word, strikes(7, 8)), (word, strikes(0, 3, 5)))
        self.no((RING, 4, 1, 3), (word, strikes(0, 1, 6)), (word, strikes(8)), (word, strikes()))
        self.yes((RING, 4, 1, 1), (word, strikes(7, 8)), (word, strikes(0, 1, 2, 3)))
        self.yes((RING, 4, 1, 60), ((0,) * 61, strikes(0, 60)))
        self.no((RING, 4, 1, 60), ((0,) * 61, strikes(1, 60)))

    def test_how_many_are_pushed(self):
        two, three = ((0, 1), (1, 1)), ((0, 1), (1, 1), (2, 1))
        self.yes((RING, 4, 2, 1), ((0,), ((0, two),)))
        self.no((RING, 4, 1, 1), ((0,), ((0, two),)))
        self.yes((RING, 4, 3, 1), ((0,), ((0, three),)))
        self.no((RING, 4, 2, 1), ((0,), ((0, three),)))
        # Just one of the strikes pushes too many.
        self.no((RING, 4, 2, 1), ((0, 0, 0), ((0, two), (2, ((0, 1), (1, 1), (2, 0))))))
        self.no((RING, 4, 2, 1), ((0, 0, 0), ((0, three), (2, two))))

    def test_words_of_no_letter_of_4000_and_more(self):
        strikes = ((0, ((0, 1),)),)
        self.no((RING, 1, 1, 1), ((), strikes), ((), ()))
        self.yes((RING, 1, 1, 1), ((0,) * 4000, strikes), ((0,), strikes))
        self.no((RING, 1, 1, 1), ((0,) * 4001, strikes), ((0,) * 4002, strikes))
        self.yes((LAST, 2, 1, 1), ((0,) * 4000, ((3999, ((1, 1),)),)))
        self.no((LAST, 2, 1, 1), ((0,) * 4000, ((3998, ((1, 1),)),)), ((0,) * 4001, ((4000, ((1, 1),)),)))

    def test_4000_strikes(self):
        strikes = tuple((place, ((0, 1 - place % 2),)) for place in range(4001))
        self.yes((RING, 1, 1, 1), ((0,) * 4000, strikes[:4000]), ((0,) * 4000, strikes[1:]))
        self.no((RING, 1, 1, 1), ((0,) * 4000, strikes))
        self.no((RING, 1, 1, 2), ((0,) * 4000, strikes[:4000]))
        self.yes((RING, 1, 1, 2), ((0,) * 4000, strikes[::2]))

    def test_what_story_returns(self):
        for machine in NAMED + (LONGEST, ONLY_BY_ASIDE, FAR_ROUND):
            for copies, pushed, room in product((1, 2, 5, 99), (0, 1, 9), (1, 3, 60)):
                told = story(machine, copies, pushed, room)
                self.yes((machine, copies, pushed, room), told)
                if told is not None:
                    word, strikes = told
                    self.no((machine, copies, pushed, room), list(told), (strikes, word), told + ((),), (word,))
                    self.no((machine, copies, pushed, room), (list(word), strikes), (word, list(strikes)), (word, ()))


class NeverAnError(Base):
    ARGUMENTS = ((LAST, 2, 1, 1), (RING, 1, 1, 60), (CHAIN, 6, 1, 1), (LAST, 3, 1, 1), (RING, 3, 0, 1))
    STRIKES = ((0, ((0, 1),)),)

    def test_other_kinds(self):
        for arguments in self.ARGUMENTS:
            self.no(arguments, *[value for value in ODD + NO_NUMBERS if value is not None])
            self.no(arguments, [(0,), self.STRIKES], {0: (0,), 1: self.STRIKES}, ((0,), self.STRIKES, None), ((0,),))
            for odd in ODD + (None,):
                self.no(arguments, (odd, self.STRIKES), ((odd,), self.STRIKES), ((0, odd, 0), self.STRIKES))
                # Among them is (), which tells no strikes at all, but then no vote is wrong.
                self.no(arguments, ((0,), odd), ((0,), (odd,)), ((0,), self.STRIKES + (odd,)))

    def test_letters(self):
        for letter in NO_NUMBERS + (2, 3):
            self.no((LAST, 2, 1, 1), ((letter,), self.STRIKES), ((letter, 0), ((1, ((0, 1),)),)))
            self.no((RING, 1, 1, 1), ((0, letter), self.STRIKES), ((0, letter, 0), self.STRIKES))

    def test_places(self):
        self.yes((RING, 1, 1, 1), ((0, 0), ((1, ((0, 0),)),)))
        for place in NO_NUMBERS:
            self.no((RING, 1, 1, 1), ((0, 0), ((place, ((0, 0),)),)), ((0, 0), self.STRIKES + ((place, ((0, 0),)),)))
        for strikes in (self.STRIKES * 2, ((1, ((0, 0),)), (0, ((0, 1),)))):
            self.no((RING, 1, 1, 1), ((0, 0), strikes))

    def test_pushes(self):
        for pushes in (
                (), [(0, 1)], ([0, 1],), ((0, 1), (0, 1)), ((1, 1), (0, 1)), ((0, 1, 0),), ((0,),), 0, None, "", {},
                ((-1, 1),), ((2, 1),), ((False, 1),), ((None, 1),), ((0, 1), (2, 1))):
            self.no((LAST, 2, 9, 1), ((0,), ((0, pushes),)), ((0,), self.STRIKES + ((1, pushes),)))
        for state in NO_NUMBERS + (2,):
            self.no((LAST, 2, 9, 1), ((0,), ((0, ((0, state),)),)), ((0,), ((0, ((0, 1), (1, state))),)))

    def test_lists_for_tuples(self):
        self.yes((LAST, 2, 1, 1), ((0,), ((0, ((0, 1),)),)))
        self.no((LAST, 2, 1, 1), [(0,), ((0, ((0, 1),)),)], ([0], ((0, ((0, 1),)),)), ((0,), [(0, ((0, 1),))]))
        self.no((LAST, 2, 1, 1), ((0,), ([0, ((0, 1),)],)), ((0,), ((0, [(0, 1)]),)), ((0,), ((0, ([0, 1],)),)))

    def test_deep_tuples(self):
        deep = ()
        for _ in range(20000):
            deep = (deep,)
        for arguments in self.ARGUMENTS:
            self.no(arguments, deep, (deep, deep), (deep, self.STRIKES), ((0,), deep), ((deep,), self.STRIKES))
            self.no(arguments, ((0,), (deep,)), ((0,), ((0, deep),)), ((0,), ((deep, ((0, 1),)),)))
            self.no(arguments, ((0,), ((0, (deep,)),)), ((0,), ((0, ((0, deep),)),)), ((0,), ((0, ((deep, 1),)),)))


class Errors(unittest.TestCase):
    def calls(self):
        yield story, ()
        for value in ODD + (None, story(LAST, 2, 1, 1), story(RING, 2, 1, 1)):
            yield shows_story, (value,)

    def test_numbers(self):
        for call, values in self.calls():
            for machine in (LAST, RING):
                for number in NO_NUMBERS:
                    for arguments in ((number, 1, 1), (2, number, 1), (2, 1, number), (number, number, number)):
                        with self.assertRaises(BadNumber) as caught:
                            call(machine, *arguments, *values)
                        self.assertEqual({}, vars(caught.exception))
                for arguments in ((0, 1, 1), (100, 1, 1), (2, 10, 1), (2, 1, 0), (2, 1, 61), (2, 0, 0), (2, 0, 61)):
                    with self.assertRaises(BadNumber):
                        call(machine, *arguments, *values)
                call(machine, 1, 0, 1, *values)
                call(machine, 99, 9, 60, *values)

    def test_machines(self):
        for call, values in self.calls():
            for wrong, part in (((), "machine"), (((), ()), "steps"), ((((0,),), ((10,),)), "answers")):
                with self.assertRaises(BadMachine) as caught:
                    call(wrong, 0, 10, 61, *values)
                self.assertEqual(part, caught.exception.part)


class Ends(unittest.TestCase):
    def test_the_vote_at_the_last_letter(self):
        for machine in (LAST, RING, CHAIN, APART, GREATEST, LONGEST):
            for copies, pushed, room in ((1, 1, 1), (2, 1, 1), (2, 2, 60)):
                word, strikes = story(machine, copies, pushed, room)
                right, given, vote = course(machine, copies, word, strikes)[-1]
                self.assertNotEqual(right, vote)
                self.assertLessEqual(2 * given.count(right), copies)


if __name__ == "__main__":
    unittest.main()
