"""Point 42: votes that weigh, held against all that words and strikes can lead to."""

from itertools import combinations, product
from random import Random
import unittest

from pushedclerks.clerks import are_enough
from pushedclerks.errors import BadMachine, BadNumber, BadWeights
from pushedclerks.lates import late
from pushedclerks.weights import are_heavy, heavy_story, lightest_side, most_heavy, shows_heavy_story
from tests.small import (
    APART, ASIDE, CHAIN, GREATEST, LAST, LONGEST, NAMED, NO_NUMBERS, ODD, ONLY_BY_ASIDE, RING, SILENT, all_pushes,
    all_strikes, letters_of, slow_letter, small_machines, some_machines, words,
)

OF_WEIGHTS = (are_heavy, lightest_side, heavy_story)
ENDLESS = (RING, APART, GREATEST)
NO_LATE_WORD = (SILENT, (((0,),), ((9,),)), (((1,), (0,)), ((4,), (4,))))


def side(machine, weights, right, states, letter):
    """The weight of the copies, in these states, that answer a letter as one in the right state does."""
    told = machine[1]
    return sum(weight for weight, state in zip(weights, states) if told[state][letter] == told[right][letter])


def slow_lightest(machine, weights, pushed, room):
    """The least weight of the right answer's copies: go through all to which words and strikes can lead.

    That is the right state, those of the copies, and how many letters there must be until the next strike.
    """
    pushes = all_pushes(machine, len(weights), pushed)
    begun = (0, (0,) * len(weights), 0)
    seen, waiting, lightest = {begun}, [begun], sum(weights)
    while waiting:
        right, states, wait = waiting.pop()
        choices = [(states, max(wait - 1, 0))]
        if wait == 0:
            struck = [dict(row) for row in pushes]
            choices += [(tuple(into.get(at, state) for at, state in enumerate(states)), room - 1) for into in struck]
        for (led, after), letter in product(choices, range(letters_of(machine))):
            lightest = min(lightest, side(machine, weights, right, led, letter))
            come = (machine[0][right][letter], tuple(machine[0][state][letter] for state in led), after)
            if come not in seen:
                seen.add(come)
                waiting.append(come)
    return lightest


def right_side(machine, weights, word, strikes, place):
    """The weight of the copies that give the right answer to the letter at a place."""
    right, given, _ = slow_letter(machine, len(weights), word, strikes, place)
    return sum(weight for weight, answer in zip(weights, given) if answer == right)


def is_heavy_story(machine, weights, pushed, room, word, strikes):
    """The words of point 42, for a word and strikes that are such."""
    if not 1 <= len(word) <= 4000 or any(len(pushes) > pushed for _, pushes in strikes):
        return False
    if any(after[0] - strike[0] < room for strike, after in zip(strikes, strikes[1:])):
        return False
    lightest = lightest_side(machine, weights, pushed, room)
    return right_side(machine, weights, word, strikes, len(word) - 1) == lightest


class Base(unittest.TestCase):
    def fails(self, error, fields, call, *values):
        with self.subTest(call=call.__name__, values=repr(values)[:80]), self.assertRaises(error) as caught:
            call(*values)
        self.assertEqual(fields, vars(caught.exception))

    def told(self, lightest, machine, weights, pushed, room):
        where = (machine, weights, pushed, room)
        self.assertEqual((int, lightest), (type(lightest_side(*where)), lightest_side(*where)), where)
        self.assertIs(2 * lightest > sum(weights), are_heavy(*where), where)


class Examples(unittest.TestCase):
    def test_them(self):
        self.assertIs(False, are_heavy(LAST, (3, 1, 1, 1), 1, 1))
        self.assertEqual(3, lightest_side(LAST, (3, 1, 1, 1), 1, 1))
        self.assertIs(True, are_heavy(LAST, (2, 1, 1, 1), 1, 1))
        self.assertEqual(1, most_heavy((3, 1, 1, 1, 1)))
        self.assertIs(True, shows_heavy_story(LAST, (3, 1), 1, 1, ((0,), ((0, ((0, 1),)),))))
        self.assertIs(True, shows_heavy_story(RING, (5, 5), 1, 2, heavy_story(RING, (5, 5), 1, 2)))
        with self.assertRaises(BadWeights) as caught:
            are_heavy(LAST, (), 1, 1)
        self.assertEqual({}, vars(caught.exception))


class Weights(Base):
    def wrong(self, weights):
        for call in OF_WEIGHTS:
            for pushed, room in ((0, 1), (9, 60), (10, 0), (None, None)):
                self.fails(BadWeights, {}, call, LAST, weights, pushed, room)
            self.fails(BadMachine, {"part": "steps"}, call, ((), ()), weights, 0, 1)
        for value in (None, ((0,), ()), True):
            self.fails(BadWeights, {}, shows_heavy_story, LAST, weights, -1, 0, value)
        self.fails(BadWeights, {}, most_heavy, weights)

    def test_numbers_of_copies(self):
        for many in (1, 2, 19, 20):
            for weight in (1, 2, 98, 99):
                self.told(many * weight, LAST, (weight,) * many, 0, 1)
                self.assertEqual((many - 1) // 2, most_heavy((weight,) * many))
        for many in (0, 21, 22, 99, 4000):
            self.wrong((1,) * many)

    def test_weights_that_there_are_none_of(self):
        for weight in NO_NUMBERS + (0, 100, 101):
            self.wrong((weight,))
            self.wrong((1, weight, 1))
            self.wrong((99,) * 19 + (weight,))

    def test_no_tuple_of_integers(self):
        for value in ODD + NO_NUMBERS + (None, [1], [1, 1], {1: 1}, "1", "11", 1, ((1,),), ([1],)):
            if value != (1,):
                self.wrong(value)
        deep = ()
        for _ in range(20000):
            deep = (deep,)
        for call in OF_WEIGHTS:
            with self.assertRaises(BadWeights):
                call(LAST, deep, 0, 1)

    def test_the_other_arguments(self):
        for call in OF_WEIGHTS:
            for machine, part in (((), "machine"), (((), ()), "steps"), ((((0,),), ((10,),)), "answers")):
                self.fails(BadMachine, {"part": part}, call, machine, (), -1, 0)
            for pushed in NO_NUMBERS + (10, 11):
                self.fails(BadNumber, {}, call, LAST, (1,), pushed, 1)
            for room in NO_NUMBERS + (0, 61):
                self.fails(BadNumber, {}, call, LAST, (1,), 0, room)
                self.fails(BadNumber, {}, call, RING, (1,), 9, room)
        for pushed, room in ((-1, 1), (10, 1), (True, 1), (1, 0), (1, 61), (0, True), (0, None)):
            for value in (None, ((0,), ()), True):
                self.fails(BadNumber, {}, shows_heavy_story, LAST, (1, 1), pushed, room, value)
        self.fails(BadMachine, {"part": "machine"}, shows_heavy_story, (), (), -1, 0, None)


class Sides(Base):
    def test_nobody_pushed(self):
        for machine in NAMED + (LONGEST, ONLY_BY_ASIDE):
            for weights in ((1,), (99,), (1, 2, 3), (99,) * 20):
                for room in (1, 60):
                    self.told(sum(weights), machine, weights, 0, room)

    def test_no_late_word(self):
        for machine in NO_LATE_WORD:
            for weights, pushed, room in product(((1,), (9, 1), (1,) * 20), (0, 1, 9), (1, 60)):
                self.told(sum(weights), machine, weights, pushed, room)

    def test_late_words_without_end(self):
        for machine in ENDLESS:
            for weights, pushed, room in product(((1,), (9, 1), (99,) * 20), (1, 2, 9), (1, 60)):
                self.told(0, machine, weights, pushed, room)

    def test_the_heaviest_ones(self):
        # The longest late word of LONGEST has five letters, that of CHAIN three.
        weights = (5, 1, 40, 3, 2, 30, 4)
        self.assertEqual((5, 3), (late(LONGEST), late(CHAIN)))
        self.told(45, LONGEST, weights, 1, 5)
        self.told(15, LONGEST, weights, 1, 3)
        self.told(10, LONGEST, weights, 1, 2)
        self.told(3, LONGEST, weights, 1, 1)
        self.told(15, CHAIN, weights, 2, 3)
        self.told(6, CHAIN, weights, 2, 2)
        self.told(1, CHAIN, weights, 2, 1)
        self.told(1, CHAIN, weights, 3, 2)

    def test_all_pushed_in_the_end(self):
        for weights in ((7,), (1, 99), (3, 2, 1), (1,) * 9):
            self.told(0, LAST, weights, 9, 60)
            self.told(0, LONGEST, weights, 5, 3)
        self.told(0, CHAIN, (1,) * 20, 7, 1)
        self.told(2, CHAIN, (1,) * 20, 6, 1)

    def test_just_half(self):
        # Those of the pushed ones make just half, one less, and one more.
        for weights, lightest in (((4, 2, 2), 4), ((4, 3, 2), 5), ((5, 2, 2), 4), ((50, 25, 25), 50), ((1, 1), 1)):
            self.told(lightest, LAST, weights, 1, 1)
        self.assertIs(False, are_heavy(LAST, (4, 2, 2), 1, 1))
        self.assertIs(True, are_heavy(LAST, (4, 3, 2), 1, 1))
        self.assertIs(False, are_heavy(LAST, (5, 2, 2), 1, 1))
        self.assertIs(False, are_heavy(CHAIN, (3, 2, 1, 4), 1, 2))
        self.assertIs(False, are_heavy(CHAIN, (3, 3, 2, 2, 1, 1), 1, 2))
        self.assertIs(True, are_heavy(CHAIN, (3, 3, 2, 2, 2, 1), 1, 2))

    def test_like_weights_are_like_plain_votes(self):
        for machine in NAMED + (LONGEST, ONLY_BY_ASIDE) + tuple(some_machines(131, 30)):
            for weight, copies, pushed, room in product((1, 7), (1, 2, 3, 4, 7, 20), (0, 1, 2, 9), (1, 2, 5, 60)):
                enough = are_enough(machine, copies, pushed, room)
                self.assertIs(enough, are_heavy(machine, (weight,) * copies, pushed, room))

    def test_against_all_that_words_and_strikes_lead_to(self):
        chance = Random(132)
        machines = small_machines()
        for machine in machines + some_machines(133, 150, 3, 2):
            for copies, pushed in ((1, 1), (2, 1), (3, 1), (2, 2)):
                room = chance.choice((1, 1, 2, 3))
                weights = tuple(chance.choice((1, 2, 3, 99)) for _ in range(copies))
                self.told(slow_lightest(machine, weights, pushed, room), machine, weights, pushed, room)

    def test_against_them_for_longer_late_words(self):
        for machine, weights, pushed, room in (
                (CHAIN, (2, 5, 3, 1), 1, 1), (CHAIN, (2, 5, 3), 1, 2), (CHAIN, (4, 4), 1, 3), (CHAIN, (1, 2, 9), 2, 2),
                (LONGEST, (3, 7), 1, 5), (LONGEST, (3, 7, 2), 1, 3), (ONLY_BY_ASIDE, (2, 5, 3), 1, 1),
                (ASIDE, (2, 5, 3), 1, 1), (ASIDE, (2, 5, 3), 2, 1), (APART, (2, 5), 1, 2), (RING, (2, 5, 3), 1, 4)):
            self.told(slow_lightest(machine, weights, pushed, room), machine, weights, pushed, room)

    def test_all_words_and_all_strikes(self):
        for machine, weights, pushed, room, longest in (
                (LAST, (3, 1), 1, 1, 3), (LAST, (1, 4, 2), 2, 2, 2), (RING, (2, 3), 1, 2, 4), (ASIDE, (5, 1), 1, 1, 3),
                (CHAIN, (2, 9), 1, 2, 4), (SILENT, (1, 2), 2, 1, 2)):
            rows = all_strikes(machine, len(weights), pushed, room, longest)
            sides = [
                right_side(machine, weights, word, strikes, len(word) - 1)
                for word in words(letters_of(machine), longest) if word for strikes in rows]
            self.told(min(sides), machine, weights, pushed, room)


class Stories(Base):
    def right_story(self, *where):
        machine, weights = where[:2]
        told = heavy_story(*where)
        self.assertIs(True, shows_heavy_story(*where, told), where)
        self.assertEqual((tuple, 2), (type(told), len(told)))
        word, strikes = told
        self.assertEqual({tuple}, {type(word), type(strikes)})
        self.assertTrue(all(type(letter) is int and 0 <= letter < letters_of(machine) for letter in word))
        for place, pushes in strikes:
            self.assertTrue(type(place) is int and 0 <= place <= 4000)
            self.assertEqual(sorted(pushes), list(pushes))
            self.assertTrue(all(0 <= copy < len(weights) and 0 <= into < len(machine[0]) for copy, into in pushes))
            self.assertEqual(len(pushes), len({copy for copy, _ in pushes}))
            self.assertGreater(len(pushes), 0)
        self.assertTrue(is_heavy_story(*where, word, strikes), where)

    def test_nobody_needs_to_be_pushed(self):
        for machine in NAMED:
            self.right_story(machine, (1, 2, 3), 0, 1)
            self.right_story(machine, (99,) * 20, 0, 60)
        for machine in NO_LATE_WORD:
            for pushed, room in ((0, 1), (1, 1), (9, 60)):
                self.right_story(machine, (1, 2, 3), pushed, room)

    def test_machines_that_forget(self):
        for machine in (LAST, ASIDE, ONLY_BY_ASIDE, CHAIN, LONGEST):
            for weights in ((1,), (2, 2), (1, 2, 3), (9, 1, 5, 5), (1, 2, 3, 4, 5, 6, 7), tuple(range(99, 79, -1))):
                for pushed, room in product((1, 2, 3, 9), (1, 2, 3, 4, 5, 6, 60)):
                    self.right_story(machine, weights, pushed, room)

    def test_where_weights_are_enough(self):
        self.assertIs(True, are_heavy(LAST, (1, 1, 1), 1, 1))
        self.right_story(LAST, (1, 1, 1), 1, 1)
        self.right_story(CHAIN, (1,) * 20, 1, 1)
        self.right_story(CHAIN, (5,) * 19 + (1,), 3, 1)

    def test_machines_that_do_not_forget(self):
        for machine in ENDLESS:
            for weights in ((1,), (2, 5), (1, 2, 3), (99,) * 20, tuple(range(1, 21))):
                for pushed, room in product((1, 2, 3, 9), (1, 2, 7, 60)):
                    self.right_story(machine, weights, pushed, room)

    def test_more_machines(self):
        chance = Random(134)
        for machine in small_machines()[::2] + some_machines(135, 300):
            for _ in range(3):
                greatest, copies = chance.choice((2, 99)), chance.choice((1, 2, 3, 5, 20))
                weights = tuple(chance.randint(1, greatest) for _ in range(copies))
                self.right_story(machine, weights, chance.randint(0, 9), chance.choice((1, 1, 2, 3, 4, 5, 60)))


class Shows(Base):
    def yes(self, where, *values):
        for value in values:
            self.assertIs(True, shows_heavy_story(*where, value), (where, value))

    def no(self, where, *values):
        for number, value in enumerate(values):
            self.assertIs(False, shows_heavy_story(*where, value), (where, number))

    def test_all_words_and_strikes(self):
        for machine, weights, pushed, room, longest in (
                (LAST, (3, 1), 1, 1, 2), (LAST, (1, 1, 1), 1, 2, 2), (RING, (2, 2), 1, 1, 3), (RING, (2, 1), 0, 1, 3),
                (ASIDE, (1, 2), 1, 2, 2), (CHAIN, (1, 2), 1, 3, 2), (SILENT, (1, 2), 1, 1, 2)):
            where = (machine, weights, pushed, room)
            many = {True: 0, False: 0}
            # Strikes of more pushed ones and nearer ones, and such behind the word, are among them.
            for strikes in all_strikes(machine, len(weights), 2, 1, longest):
                for word in words(letters_of(machine), longest):
                    right = is_heavy_story(*where, word, strikes)
                    many[right] += 1
                    self.assertIs(right, shows_heavy_story(*where, (word, strikes)), (where, word, strikes))
            self.assertGreater(min(many.values()), 0, where)

    def test_other_choices(self):
        # Any of the heaviest, at any place from which they are still wrong, into any state that makes them so.
        where = (LAST, (2, 5, 5, 1), 1, 1)
        self.yes(where, ((0,), ((0, ((1, 1),)),)), ((0,), ((0, ((2, 1),)),)), ((1, 1), ((1, ((2, 0),)),)))
        self.no(where, ((0,), ((0, ((0, 1),)),)), ((0,), ((0, ((3, 1),)),)), ((0, 1), ((0, ((1, 1),)),)), ((0,), ()))
        # A side that is lighter cannot be, a heavier one isn't it.
        self.no((LAST, (3, 1), 2, 1), ((0,), ((0, ((0, 1),)),)))
        self.yes((LAST, (3, 1), 2, 1), ((0,), ((0, ((0, 1), (1, 1))),)))
        self.yes((LAST, (3, 1), 0, 1), ((0,), ()), ((1, 0, 1), ()))
        self.no((LAST, (3, 1), 0, 1), ((0,), ((0, ((0, 0),)),)), ((), ()))

    def test_rooms_and_numbers_pushed(self):
        story = ((0,) * 5, ((0, ((0, 1),)), (2, ((1, 1),))))
        self.yes((RING, (2, 2), 1, 1), story)
        self.yes((RING, (2, 2), 1, 2), story)
        self.no((RING, (2, 2), 1, 3), story)
        both = ((0,) * 5, ((0, ((0, 1), (1, 1))),))
        self.yes((RING, (2, 2), 2, 60), both)
        self.no((RING, (2, 2), 1, 60), both)
        self.no((RING, (2, 2), 0, 60), both)

    def test_strikes_behind_the_word(self):
        where = (LAST, (3, 1), 1, 2)
        self.yes(where, ((0,), ((0, ((0, 1),)), (2, ((1, 1),)))), ((0,), ((0, ((0, 1),)), (4000, ((1, 1),)))))
        self.no(where, ((0,), ((0, ((0, 1),)), (1, ((1, 1),)))), ((0,), ((0, ((0, 1),)), (2, ((0, 1), (1, 1))))))

    def test_words_up_to_4000_letters(self):
        where = (RING, (4,), 1, 1)
        self.yes(where, ((0,) * 4000, ((0, ((0, 1),)),)), ((0,) * 4000, ((3999, ((0, 0),)),)))
        self.no(where, ((0,) * 4001, ((0, ((0, 1),)),)), ((0,) * 4000, ()), ((), ()), ((), ((0, ((0, 1),)),)))

    def test_any_other_value(self):
        right = ((0,), ((0, ((0, 1),)),))
        for where in ((LAST, (3, 1), 1, 1), (LAST, (3, 1), 0, 1), (RING, (5,), 1, 60), (SILENT, (1,), 9, 1)):
            for value in ODD + NO_NUMBERS:
                # These are a place, a word, and no strikes.
                if value in (7, (1,), ()):
                    continue
                self.no(where, value, (value,) * 2, (value, ()), (value, right[1]), (right[0], value))
                self.no(where, ((value,), right[1]), ((value,), ()), (right[0], (value,)), (right[0], ((0, value),)))
                self.no(where, (right[0], ((value, ((0, 1),)),)), (right[0], ((0, ((value, 1),)),)))
                self.no(where, (right[0], ((0, ((0, value),)),)))
            self.no(where, 7, (1,), (), ((), ()), ((7,), ()), ((0,), ((),)), ((0,), (1,)), (7, 7), ((1,), (1,)))
            self.no(where, None, list(right), right + ((),), right[:1], ([0], right[1]), (right[0], list(right[1])))
            self.no(where, ((0,), [(0, ((0, 1),))]), ((3,), ()), ((True,), ()), ((0,), ((0, ((2, 1),)),)))
        deep = ()
        for _ in range(20000):
            deep = (deep,)
        self.no((LAST, (3, 1), 1, 1), deep, (deep, deep), ((0,), deep), ((0,), ((0, deep),)))


class MostHeavy(unittest.TestCase):
    def slow(self, weights):
        def light(many):
            return all(2 * sum(chosen) < sum(weights) for chosen in combinations(weights, many))

        return max(many for many in range(len(weights) + 1) if light(many))

    def test_by_all_lots_of_copies(self):
        for many, greatest in ((1, 9), (2, 9), (3, 6), (4, 5), (5, 3), (6, 2)):
            for weights in product(range(1, greatest + 1), repeat=many):
                self.assertEqual(self.slow(weights), most_heavy(weights), weights)
        chance = Random(136)
        for _ in range(100):
            weights = tuple(chance.randint(1, 99) for _ in range(chance.randint(1, 10)))
            self.assertEqual(self.slow(weights), most_heavy(weights), weights)

    def test_some(self):
        for weights, most in (
                ((1,), 0), ((99,), 0), ((1, 1), 0), ((1, 1, 1), 1), ((2, 1, 1), 0), ((1, 2, 1, 1), 1), ((99,) * 20, 9),
                ((1,) * 19, 9), ((1,) * 20, 9), ((50,) + (1,) * 19, 0), ((9,) + (1,) * 19, 5),
                (tuple(range(1, 21)), 5)):
            self.assertEqual((int, most), (type(most_heavy(weights)), most_heavy(weights)), weights)


if __name__ == "__main__":
    unittest.main()
