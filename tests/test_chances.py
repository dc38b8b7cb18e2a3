"""Point 43: pushes by chance, held against all pushes one by one."""

from fractions import Fraction
from itertools import product
from math import gcd
from random import Random
import unittest

from pushedclerks.chances import mean_misses, right_chances
from pushedclerks.errors import BadChance, BadLetters, BadMachine, BadNumber
from tests.small import (
    APART, ASIDE, CHAIN, GREATEST, LAST, NAMED, NO_NUMBERS, ODD, RING, SILENT, letters_of, slow_course, small_machines,
    some_machines,
)

BOTH = (right_chances, mean_misses)
NO_WORDS = (
    None, True, 0, 1, "", "01", [], [0], {}, {0: 0}, ((),), ((0,),), (2,), (-1,), (0, True), (10 ** 30,), (0,) * 4001,
)


def all_lots(machine, copies, chance):
    """List all that may be pushed, each with its chance: None for a copy that isn't, otherwise its state."""
    pushed = Fraction(*chance)
    states = len(machine[0])
    fates = [(None, 1 - pushed)] + [(state, pushed / states) for state in range(states)]
    found = []
    for lot in product(fates, repeat=copies):
        whole = Fraction(1)
        for _, part in lot:
            whole *= part
        found.append((tuple(state for state, _ in lot), whole))
    return found


def slow_chances(machine, copies, chance, way, word):
    """The words of point 43: the chance of a right vote, letter by letter, and the mean of those that aren't."""
    rights, misses = [Fraction(0)] * len(word), Fraction(0)
    for lot, part in all_lots(machine, copies, chance):
        pushes = tuple((copy, state) for copy, state in enumerate(lot) if state is not None)
        strikes = ((len(way), pushes),) if pushes else ()
        told = slow_course(machine, copies, way + word, strikes)[len(way):]
        for place, (right, _, vote) in enumerate(told):
            if vote == right:
                rights[place] += part
            else:
                misses += part
    return tuple((right.numerator, right.denominator) for right in rights), (misses.numerator, misses.denominator)


class Base(unittest.TestCase):
    def against_all_pushes(self, *values):
        rights, misses = slow_chances(*values)
        self.assertEqual(rights, right_chances(*values), values)
        self.assertEqual(misses, mean_misses(*values), values)
        self.right_kinds(*values)

    def right_kinds(self, *values):
        rights, misses = right_chances(*values), mean_misses(*values)
        self.assertEqual(tuple, type(rights))
        for fraction in rights + (misses,):
            self.assertEqual([tuple, int, int], [type(fraction)] + [type(number) for number in fraction])
            top, bottom = fraction
            self.assertTrue(top >= 0 and bottom > 0 and gcd(top, bottom) == 1, fraction)
        self.assertTrue(all(top <= bottom for top, bottom in rights))

    def fails(self, error, fields, *values):
        for call in BOTH:
            with self.subTest(call=call.__name__, values=repr(values)[:80]), self.assertRaises(error) as caught:
                call(*values)
            self.assertEqual(fields, vars(caught.exception))


class Examples(unittest.TestCase):
    def test_them(self):
        self.assertEqual(((1, 2), (1, 1)), right_chances(LAST, 1, (1, 1), (), (0, 0)))
        self.assertEqual(((27, 32), (1, 1)), right_chances(LAST, 3, (1, 2), (1,), (0, 1)))
        self.assertEqual((1, 2), mean_misses(LAST, 3, (1, 1), (), (0, 1)))
        with self.assertRaises(BadChance) as caught:
            mean_misses(LAST, 3, (2, 1), (), ())
        self.assertEqual({}, vars(caught.exception))


class Chances(Base):
    def test_right_ones(self):
        for chance, right in (
                ((0, 1), (1, 1)), ((1, 1), (1, 2)), ((100, 100), (1, 2)), ((0, 100), (1, 1)), ((1, 100), (199, 200)),
                ((99, 100), (101, 200)), ((1, 2), (3, 4)), ((2, 4), (3, 4)), ((50, 100), (3, 4)), ((2, 3), (2, 3))):
            self.assertEqual((right,), right_chances(LAST, 1, chance, (), (0,)))
            self.assertEqual((right[1] - right[0], right[1]), mean_misses(LAST, 1, chance, (), (0,)))

    def test_wrong_ones(self):
        for chance in (
                (0, 0), (1, 0), (0, 101), (1, 101), (101, 101), (-1, 1), (-1, 100), (2, 1), (101, 100), (1, -1),
                (0, -1), (-1, -1), (), (1,), (0, 1, 1), (1, 1, 1), [1, 2], {1: 2}, {0: 1, 1: 2}, "12", "1/2", 1, 0,
                ((1, 2),)):
            self.fails(BadChance, {}, LAST, 3, chance, (), (0,))

    def test_no_pairs_and_no_integers(self):
        for value in ODD + NO_NUMBERS:
            self.fails(BadChance, {}, LAST, 3, value, (), ())
            if value != 7:
                self.fails(BadChance, {}, LAST, 3, (value, 100), (), ())
                self.fails(BadChance, {}, LAST, 3, (0, value), (), ())

    def test_pushed_for_sure(self):
        self.assertEqual(((1, 6), (1, 6)), right_chances(GREATEST, 1, (1, 1), (0,), (0, 0)))
        self.assertEqual(((2, 3), (1, 1), (1, 1)), right_chances(ASIDE, 1, (7, 7), (0, 0), (0, 0, 0)))

    def test_nobody_pushed(self):
        for machine in NAMED:
            for copies in (1, 2, 25):
                self.assertEqual(((1, 1),) * 3, right_chances(machine, copies, (0, 7), (0, 0), (0,) * 3))
                self.assertEqual((0, 1), mean_misses(machine, copies, (0, 100), (0, 0), (0,) * 3))

    def test_no_vote_wrong(self):
        for chance in ((1, 1), (37, 100)):
            self.assertEqual(((1, 1),) * 4, right_chances(SILENT, 25, chance, (1,), (0, 1, 2, 0)))
            self.assertEqual((0, 1), mean_misses(SILENT, 25, chance, (1,), (0, 1, 2, 0)))


class Arguments(Base):
    def test_numbers_of_copies(self):
        for copies in (1, 2, 24, 25):
            self.assertEqual(1, len(right_chances(LAST, copies, (1, 2), (), (0,))))
            self.right_kinds(LAST, copies, (1, 2), (), (0,))
        for copies in NO_NUMBERS + (0, 26, 99, 100):
            self.fails(BadNumber, {}, LAST, copies, (1, 2), (), (0,))

    def test_ways_and_words(self):
        for value in NO_WORDS:
            self.fails(BadLetters, {}, LAST, 3, (1, 2), value, (0,))
            self.fails(BadLetters, {}, LAST, 3, (1, 2), (0,), value)
            self.fails(BadLetters, {}, LAST, 3, (1, 2), value, value)

    def test_in_their_sequence(self):
        for machine, part in (((), "machine"), (((), ()), "steps"), ((((0,),), ((10,),)), "answers")):
            self.fails(BadMachine, {"part": part}, machine, 0, (2, 1), (9,), (9,))
        self.fails(BadNumber, {}, LAST, 26, (2, 1), (9,), (9,))
        self.fails(BadNumber, {}, LAST, True, (2, 1), (), ())
        self.fails(BadChance, {}, LAST, 25, (2, 1), (9,), (9,))
        self.fails(BadChance, {}, LAST, 25, (0, 0), (), (9,))

    def test_no_letter(self):
        for machine in NAMED:
            for copies, chance, way in ((1, (1, 1), ()), (25, (1, 100), (0,) * 4000), (2, (0, 1), (0,))):
                self.assertEqual((), right_chances(machine, copies, chance, way, ()))
                self.assertEqual((0, 1), mean_misses(machine, copies, chance, way, ()))

    def test_4000_letters(self):
        way, word = (0, 1) * 2000, (1, 0, 0, 1) * 1000
        self.assertEqual(((27, 32),) + ((1, 1),) * 3999, right_chances(LAST, 3, (1, 2), way, word))
        self.assertEqual((5, 32), mean_misses(LAST, 3, (1, 2), way, word))
        self.assertEqual(((27, 32),) * 4000, right_chances(RING, 3, (1, 2), (0,) * 4000, (0,) * 4000))
        self.assertEqual((625, 1), mean_misses(RING, 3, (1, 2), (0,) * 4000, (0,) * 4000))

    def test_greatest_numbers(self):
        self.right_kinds(GREATEST, 25, (97, 100), (0, 1, 2), (0, 1, 2, 0, 1, 2))
        self.right_kinds(APART, 24, (99, 100), (0,), (0, 1, 1))


class AgainstAllPushes(Base):
    def test_halves(self):
        # Each of the copies is right with the chance 1 / 2, so that of odd numbers more than half are as often.
        for copies in (1, 3, 5, 23, 25):
            self.assertEqual(((1, 2),) * 2, right_chances(RING, copies, (1, 1), (0,), (0, 0)))
            self.assertEqual((1, 1), mean_misses(RING, copies, (1, 1), (0,), (0, 0)))
        # Of two, four and 24 copies just half may be right, and then there is no vote.
        for copies, right in ((2, (1, 4)), (4, (5, 16)), (6, (11, 32)), (24, (3518265, 8388608))):
            self.assertEqual((right,), right_chances(RING, copies, (1, 1), (), (0,)))

    def test_many_copies_one_behind_the_other(self):
        # The chance of so many right ones, copy by copy.
        for machine, chance, right in (
                (RING, (1, 3), Fraction(5, 6)), (LAST, (2, 7), Fraction(6, 7)), (GREATEST, (9, 10), Fraction(1, 4)),
                (ASIDE, (33, 100), Fraction(89, 100))):
            parts = [Fraction(1)]
            for copies in range(1, 26):
                longer = [part * (1 - right) for part in parts] + [Fraction(0)]
                parts = [part + before * right for part, before in zip(longer, [Fraction(0)] + parts)]
                most = sum(part for many, part in enumerate(parts) if 2 * many > copies)
                self.assertEqual(
                    ((most.numerator, most.denominator),), right_chances(machine, copies, chance, (), (0,)))

    def test_few_copies_of_named_machines(self):
        for machine in (LAST, RING, ASIDE, SILENT):
            letters = letters_of(machine)
            for copies, chance in ((1, (1, 3)), (2, (1, 2)), (3, (3, 4)), (3, (1, 1)), (2, (0, 5)), (4, (5, 6))):
                for way, word in (((), (0, 0)), ((letters - 1,), (0, letters - 1, 0)), ((0, letters - 1), (0,))):
                    self.against_all_pushes(machine, copies, chance, way, word)

    def test_greater_machines(self):
        for machine in (CHAIN, APART, GREATEST):
            self.against_all_pushes(machine, 2, (2, 5), (1 % letters_of(machine), 0), (0, 1 % letters_of(machine), 0))
            self.against_all_pushes(machine, 3, (9, 10), (), (0, 1))

    def test_more_machines(self):
        chance = Random(141)
        for machine in small_machines()[::11] + some_machines(142, 120, 4, 3):
            letters = letters_of(machine)
            bottom = chance.choice((1, 2, 3, 10, 100))
            way, word = [tuple(chance.randrange(letters) for _ in range(chance.randint(0, 4))) for _ in range(2)]
            self.against_all_pushes(machine, chance.choice((1, 2, 3)), (chance.randint(0, bottom), bottom), way, word)


if __name__ == "__main__":
    unittest.main()
