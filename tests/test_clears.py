"""Point 44: words that clear, parted pairs, and numbers of letters behind which copies are cleared."""

from itertools import product
from random import Random
import unittest

from pushedclerks.clears import cleared_by, clearing_word, clears, parted_pair, shows_parted_pair
from pushedclerks.errors import BadLetters, BadMachine, BadNumber, BadStrikes
from pushedclerks.lates import forgets, late
from tests.small import (
    APART, ASIDE, CHAIN, GREATEST, LAST, LONGEST, NAMED, NO_NUMBERS, ODD, ONLY_BY_ASIDE, RING, SILENT, all_answers,
    all_strikes, lead, letters_of, small_machines, some_machines, some_strikes, states_that_come, words,
)

OF_A_MACHINE = (clearing_word, parted_pair)
# It goes round, but for one letter that leads state 0 to state 1: the shortest word that clears it has nine letters.
ROUND = (((1, 1), (2, 1), (3, 2), (0, 3)), ((0, 0), (1, 1), (2, 2), (3, 3)))


def alike(machine, one, other):
    """Where states aren't alike, a word of fewer letters than there are states tells it, or one letter does."""
    rows = row_of(machine, len(machine[0]))
    return all(all_answers(machine, one, word) == all_answers(machine, other, word) for word in rows)


def row_of(machine, longest):
    """All words of just so many letters; their answers tell those of the shorter ones."""
    return list(product(range(letters_of(machine)), repeat=longest))


def alike_pairs(machine):
    states = range(len(machine[0]))
    return {(one, other) for one in states for other in states if alike(machine, one, other)}


def slow_clears(machine, word, pairs):
    """The words of point 44, of pairs of states alike."""
    led = [lead(machine, state, word) for state in range(len(machine[0]))]
    return all((one, other) in pairs for one in led for other in led)


def slow_clearing_word(machine, longest):
    """The first of the shortest words of so many letters at most that clear, None without one."""
    pairs = alike_pairs(machine)
    for word in words(letters_of(machine), longest):
        if slow_clears(machine, word, pairs):
            return word
    return None


def slow_parted_pairs(machine):
    """All pairs that no word leads to states alike; a shortest word that does comes to no pair twice."""
    pairs = alike_pairs(machine)
    states = len(machine[0])
    found = []
    for one in range(states):
        for other in range(one + 1, states):
            come = waiting = {(one, other)}
            while waiting:
                waiting = {
                    (machine[0][here][letter], machine[0][there][letter])
                    for here, there in waiting for letter in range(letters_of(machine))} - come
                come = come | waiting
            if not come & pairs:
                found.append((one, other))
    return found


class Base(unittest.TestCase):
    def fails(self, error, fields, call, *values):
        with self.subTest(call=call.__name__, values=repr(values)[:80]), self.assertRaises(error) as caught:
            call(*values)
        self.assertEqual(fields, vars(caught.exception))


class Examples(unittest.TestCase):
    def test_them(self):
        self.assertEqual((0,), clearing_word(LAST))
        self.assertIs(False, clears(LAST, ()))
        self.assertIs(False, clears(RING, (0, 0, 0)))
        self.assertIsNone(clearing_word(RING))
        self.assertEqual((0, 1), parted_pair(RING))
        self.assertIs(False, shows_parted_pair(RING, (1, 0)))
        self.assertEqual((0, 1), cleared_by(RING, 2, (0, 0), ((1, ((0, 0),)),)))


class ClearingWords(Base):
    def against_the_words(self, machine, longest):
        slow = slow_clearing_word(machine, longest)
        found = clearing_word(machine)
        self.assertEqual((type(slow), slow), (type(found), found), machine)
        self.assertIs(found is None, parted_pair(machine) is not None)
        if found is not None:
            self.assertIs(True, clears(machine, found))

    def test_all_states_alike(self):
        for machine in (SILENT, (((0,),), ((9,),)), (((1,), (0,)), ((4,), (4,)))):
            self.assertEqual((), clearing_word(machine))
            for word in words(letters_of(machine), 3):
                self.assertIs(True, clears(machine, word))
            self.assertIsNone(parted_pair(machine))

    def test_named_machines(self):
        self.assertEqual((0,), clearing_word(ASIDE))
        self.assertEqual((0,), clearing_word(CHAIN))
        self.assertEqual((1,), clearing_word(LONGEST))
        self.assertEqual((0, 0), clearing_word(ONLY_BY_ASIDE))
        self.assertEqual((0,), clearing_word(APART))
        self.assertIsNone(clearing_word(GREATEST))

    def test_the_first_of_the_shortest(self):
        # Each of the letters 1 and 2 clears, the letter 2 alone does.
        self.assertEqual((1,), clearing_word((((1, 0, 0), (0, 0, 0)), ((0, 0, 0), (1, 0, 0)))))
        self.assertEqual((2,), clearing_word((((0, 1, 1), (1, 0, 1)), ((0, 0, 0), (1, 0, 0)))))
        # (0, 1) and (1, 0) clear; (1, 0) and (1, 1) do.
        self.assertEqual((0, 1), clearing_word((((0, 1), (1, 1), (1, 2)), ((0, 0), (1, 0), (2, 0)))))
        self.assertEqual((1, 0), clearing_word((((0, 0), (0, 0), (2, 1)), ((0, 0), (1, 0), (2, 0)))))

    def test_a_long_one(self):
        self.assertEqual((1, 0, 0, 0, 1, 0, 0, 0, 1), clearing_word(ROUND))
        self.assertEqual((1, 0, 0, 0, 1, 0, 0, 0, 1), slow_clearing_word(ROUND, 9))
        # The same with six states: 25 letters.
        steps = tuple(((state + 1) % 6, 1 if state == 0 else state) for state in range(6))
        six = (steps, tuple((state, state) for state in range(6)))
        self.assertEqual((1,) + (0, 0, 0, 0, 0, 1) * 4, clearing_word(six))

    def test_all_small_machines(self):
        for machine in small_machines():
            self.against_the_words(machine, 4)

    def test_more_machines(self):
        for machine in some_machines(151, 250, 3, 3):
            self.against_the_words(machine, 5)
        for machine in some_machines(152, 100, 4, 2):
            self.against_the_words(machine, 10)
        for machine in NAMED + (ONLY_BY_ASIDE,):
            self.against_the_words(machine, 6)

    def test_states_that_cannot_come_are_led_too(self):
        # State 2 cannot come, and stays where it is.
        self.assertIsNone(clearing_word((((0,), (0,), (2,)), ((0,), (0,), (1,)))))
        self.assertIs(False, clears(ASIDE, ()))
        self.assertIs(True, clears(ASIDE, (0,)))

    def test_words_as_long_as_late(self):
        many = 0
        for machine in small_machines() + some_machines(153, 300) + [LAST, CHAIN, LONGEST]:
            if not forgets(machine) or len(states_that_come(machine)) < len(machine[0]):
                continue
            many += 1
            self.assertLessEqual(len(clearing_word(machine)), late(machine))
            for word in row_of(machine, late(machine)):
                self.assertIs(True, clears(machine, word))
        self.assertGreater(many, 100)


class Clears(Base):
    def test_against_the_words(self):
        for machine in NAMED + (LONGEST, ONLY_BY_ASIDE, ROUND) + tuple(some_machines(154, 100)):
            pairs = alike_pairs(machine)
            for word in words(letters_of(machine), 4):
                self.assertIs(slow_clears(machine, word, pairs), clears(machine, word), (machine, word))

    def test_4000_letters(self):
        self.assertIs(True, clears(LAST, (0, 1) * 2000))
        self.assertIs(True, clears(LAST, (1,) * 3999))
        self.assertIs(False, clears(RING, (0,) * 4000))
        self.assertIs(False, clears(GREATEST, (0, 1) * 2000))

    def test_wrong_words(self):
        for machine in (LAST, SILENT):
            for word in (
                    None, True, 0, 1, "", "01", [], [0], {}, {0: 0}, ((),), ((0,),), (3,), (-1,), (0, True), (0, None),
                    (10 ** 30,), (0,) * 4001):
                self.fails(BadLetters, {}, clears, machine, word)

    def test_wrong_machines(self):
        for machine, part in (((), "machine"), (((), ()), "steps"), ((((0,),), ((10,),)), "answers")):
            for value in (None, (9,), (0, 1), ()):
                self.fails(BadMachine, {"part": part}, clears, machine, value)
                self.fails(BadMachine, {"part": part}, shows_parted_pair, machine, value)
            for call in OF_A_MACHINE:
                self.fails(BadMachine, {"part": part}, call, machine)


class PartedPairs(Base):
    def yes_and_no(self, machine):
        pairs = slow_parted_pairs(machine)
        found = parted_pair(machine)
        self.assertIs(True, shows_parted_pair(machine, found), machine)
        if pairs:
            self.assertEqual([tuple, int, int], [type(value) for value in (found, *found)])
            self.assertIn(found, pairs)
        else:
            self.assertIsNone(found)
        self.assertIs(not pairs, shows_parted_pair(machine, None))
        for one in range(-1, len(machine[0]) + 1):
            for other in range(-1, len(machine[0]) + 1):
                self.assertIs((one, other) in pairs, shows_parted_pair(machine, (one, other)), (machine, one, other))

    def test_named_machines(self):
        self.assertEqual([(0, 1)], slow_parted_pairs(RING))
        self.assertEqual([], slow_parted_pairs(CHAIN))
        for machine in NAMED + (LONGEST, ONLY_BY_ASIDE, ROUND):
            self.yes_and_no(machine)

    def test_more_machines(self):
        for machine in small_machines() + some_machines(155, 300):
            self.yes_and_no(machine)

    def test_any_other_value(self):
        for machine in NAMED + (LONGEST,):
            for value in ODD + NO_NUMBERS + (0, 1, 6):
                if value is not None:
                    self.assertIs(False, shows_parted_pair(machine, value))
                for pair in ([0, value], (0, 1, value), (value,), ((0, 1), value), (value, value), {0: 0, 1: value}):
                    self.assertIs(False, shows_parted_pair(machine, pair), (machine, pair))
            for value in ODD + NO_NUMBERS + (6,):
                for pair in ((value, 1), (0, value)):
                    self.assertIs(False, shows_parted_pair(machine, pair), (machine, pair))

    def test_what_python_takes_for_a_pair(self):
        self.assertIs(True, shows_parted_pair(RING, (0, 1)))
        for value in (
                (False, True), (0, True), (False, 1), [0, 1], {0: 1}, {0: 0, 1: 1}, "01", (0, 1, 1), (0,), ((0, 1),),
                (1, 0), (0, 0), (1, 1), (0, 2), (-2, -1), (0, -1), ("0", "1"), None, True, False, (), 1):
            self.assertIs(False, shows_parted_pair(RING, value), value)
        deep = ()
        for _ in range(20000):
            deep = (deep,)
        for value in (deep, (deep, deep), (0, deep)):
            self.assertIs(False, shows_parted_pair(RING, value))
            self.assertIs(False, shows_parted_pair(LAST, value))


class ClearedBy(Base):
    def slow(self, machine, copies, word, strikes):
        """The words of point 44, for each number of letters: a copy's state goes by its last push ahead of there."""
        pairs = alike_pairs(machine)
        found = []
        for many in range(len(word) + 1):
            right = lead(machine, 0, word[:many])
            states = []
            for copy in range(copies):
                state, since = 0, 0
                for place, pushes in strikes:
                    if place < many and copy in dict(pushes):
                        state, since = dict(pushes)[copy], place
                states.append(lead(machine, state, word[since:many]))
            if all((right, state) in pairs for state in states):
                found.append(many)
        return tuple(found)

    def against_the_words(self, *values):
        found = cleared_by(*values)
        self.assertEqual((tuple, self.slow(*values)), (type(found), found), values)

    def test_nobody_pushed(self):
        for machine in NAMED:
            for copies in (1, 2, 99):
                for many in (0, 1, 5):
                    self.assertEqual(tuple(range(many + 1)), cleared_by(machine, copies, (0,) * many, ()))

    def test_strikes_ahead_of_the_first_letter_and_behind_the_last_one(self):
        first = ((0, ((0, 1),)),)
        self.assertEqual((0,), cleared_by(RING, 2, (0, 0, 0), first))
        self.assertEqual((0, 1, 2, 3), cleared_by(LAST, 2, (0, 0, 0), first))
        self.assertEqual((0,), cleared_by(RING, 2, (), first))
        self.assertEqual((0, 1, 2), cleared_by(RING, 2, (0, 0), ((2, ((0, 1),)),)))
        self.assertEqual((0, 1, 2), cleared_by(RING, 2, (0, 0), ((3, ((0, 1),)), (4000, ((1, 1),)))))

    def test_away_and_back(self):
        # Pushed away ahead of the letter 1, and back ahead of the letter 3.
        strikes = ((1, ((1, 0),)), (3, ((1, 1),)))
        self.assertEqual((0, 1, 4, 5), cleared_by(RING, 2, (0,) * 5, strikes))
        self.assertEqual((0, 1, 2, 3, 4, 5), cleared_by(RING, 1, (0,) * 5, ((1, ((0, 1),)), (3, ((0, 1),)))))

    def test_states_alike(self):
        # The states 0 and 1 are alike, so that nobody is led astray by them, by 2 they are.
        machine = (((1,), (0,), (2,)), ((4,), (4,), (5,)))
        self.assertEqual((0, 1, 2), cleared_by(machine, 1, (0, 0), ((0, ((0, 1),)), (1, ((0, 1),)))))
        self.assertEqual((0, 1), cleared_by(machine, 1, (0, 0), ((0, ((0, 1),)), (1, ((0, 2),)))))

    def test_letters_that_lead_back(self):
        self.assertEqual((0, 3, 4), cleared_by(CHAIN, 3, (1, 1, 1, 1), ((0, ((2, 1),)),)))
        self.assertEqual((0, 2, 3), cleared_by(CHAIN, 3, (1, 0, 1), ((0, ((2, 1),)),)))

    def test_4000_letters_and_99_copies(self):
        strikes = ((1000, ((0, 1), (98, 1))), (3000, ((0, 0), (98, 0))))
        self.assertEqual(
            tuple(range(1001)) + tuple(range(3001, 4001)), cleared_by(RING, 99, (0,) * 4000, strikes))

    def test_all_short_words_and_all_strikes(self):
        for machine, copies, longest in ((LAST, 2, 2), (RING, 3, 2), (ASIDE, 2, 2), (CHAIN, 1, 2)):
            for strikes in all_strikes(machine, copies, copies, 1, longest + 1 if copies < 3 else longest):
                for word in words(letters_of(machine), longest)[-4:]:
                    self.against_the_words(machine, copies, word, strikes)

    def test_more_words_and_strikes(self):
        chance = Random(156)
        for machine in NAMED * 4 + tuple(some_machines(157, 150, 5, 3)):
            copies = chance.choice((1, 2, 3, 5))
            word = tuple(chance.randrange(letters_of(machine)) for _ in range(chance.randint(0, 10)))
            self.against_the_words(machine, copies, word, some_strikes(chance, machine, copies, 12))

    def test_errors(self):
        for machine, part in (((), "machine"), (((), ()), "steps"), ((((0,),), ((10,),)), "answers")):
            self.fails(BadMachine, {"part": part}, cleared_by, machine, 0, (9,), None)
        for copies in NO_NUMBERS + (0, 100):
            self.fails(BadNumber, {}, cleared_by, LAST, copies, (9,), None)
        for word in (None, True, 0, "", "ab", [], [0], {}, ((),), (2,), (-1,), (0, True), (0,) * 4001):
            self.fails(BadLetters, {}, cleared_by, LAST, 3, word, None)
        for strikes in (None, True, 0, "", [], {}, ((),) * 4001):
            for word in ((), (0, 1)):
                self.fails(BadStrikes, {"index": None}, cleared_by, LAST, 3, word, strikes)
        for strike in (None, True, (), (0,), (0, ()), (0, ((3, 0),)), (0, ((0, 2),)), (4001, ((0, 0),))):
            for word in ((), (0, 1)):
                self.fails(BadStrikes, {"index": 0}, cleared_by, LAST, 3, word, (strike,))
                self.fails(BadStrikes, {"index": 1}, cleared_by, LAST, 3, word, ((0, ((0, 1),)), strike))


if __name__ == "__main__":
    unittest.main()
