"""Point 9: copies at work, held against a slow reading."""

from itertools import product
from random import Random
import unittest

from pushedclerks.benches import Bench
from pushedclerks.courses import course
from pushedclerks.errors import BadLetters, BadMachine, BadNumber, BadState, BadStep
from tests.small import (
    ASIDE, GREATEST, LAST, NAMED, NO_NUMBERS, ODD, RING, SILENT, letters_of, letters_read, slow_astray, slow_misses,
    slow_states, slow_vote, small_machines, some_events, some_machines,
)


def told(bench):
    return bench.states, bench.astray, bench.misses


class Base(unittest.TestCase):
    def fails(self, error, call, *values):
        with self.subTest(error=error, values=repr(values)[:80]), self.assertRaises(error) as caught:
            call(*values)
        self.assertEqual({}, vars(caught.exception))


class Examples(Base):
    def test_them(self):
        bench = Bench(RING, 3)
        self.assertIsNone(bench.push(0, 1))
        self.assertEqual((0,), bench.astray)
        self.assertEqual(0, bench.read(0))
        self.assertEqual((0, 1, 1), bench.states)
        self.assertIsNone(bench.push(1, 0))
        self.assertEqual(0, bench.read(0))
        self.assertEqual((0, 1), bench.astray)
        self.assertEqual(1, bench.misses)
        self.fails(BadLetters, bench.read, 1)


class Begun(Base):
    def test_numbers_of_copies(self):
        for copies in (1, 2, 50, 98, 99):
            self.assertEqual(((0,) * copies, (), 0), told(Bench(LAST, copies)))
        for copies in NO_NUMBERS + (0, 100, 101):
            self.fails(BadNumber, Bench, LAST, copies)

    def test_machines(self):
        for machine, part in (((), "machine"), (((), ()), "steps"), ((((0,),), ((10,),)), "answers")):
            for copies in NO_NUMBERS + (0, 1, 100):
                with self.subTest(machine=machine), self.assertRaises(BadMachine) as caught:
                    Bench(machine, copies)
                self.assertEqual({"part": part}, vars(caught.exception))
        for value in ODD + NO_NUMBERS:
            with self.subTest(machine=value), self.assertRaises(BadMachine):
                Bench(value, 0)

    def test_kinds(self):
        for machine in NAMED:
            bench = Bench(machine, 3)
            for _ in range(2):
                self.assertEqual([tuple, tuple, int], [type(value) for value in told(bench)])
                self.assertIsNone(bench.push(1, len(machine[0]) - 1))
                bench.read(0)

    def test_properties_are_only_read(self):
        bench = Bench(LAST, 3)
        for name in ("states", "astray", "misses"):
            self.assertIsInstance(vars(Bench)[name], property)
            with self.assertRaises(AttributeError):
                setattr(bench, name, ())

    def test_two_benches_are_two(self):
        one, other = Bench(LAST, 2), Bench(LAST, 2)
        one.push(0, 1)
        one.read(0)
        self.assertEqual(((0, 0), (), 1), told(one))
        self.assertEqual(((0, 0), (), 0), told(other))
        other.push(1, 1)
        self.assertEqual(((0, 0), (), 1), told(one))
        self.assertEqual(((0, 1), (1,), 0), told(other))


class Pushes(Base):
    def test_copies_that_there_are_none_of(self):
        for copies in (1, 3, 99):
            bench = Bench(LAST, copies)
            bench.push(copies - 1, 1)
            for copy in NO_NUMBERS + (copies, copies + 1, 100):
                # The copy stands ahead of the state.
                for state in (0, 1, 2, -1, True, None, "0"):
                    self.fails(BadNumber, bench.push, copy, state)
            self.assertEqual(((0,) * (copies - 1) + (1,), (copies - 1,), 0), told(bench))

    def test_states_that_there_are_none_of(self):
        for machine in (LAST, ASIDE, GREATEST, (((0,),), ((0,),))):
            states = len(machine[0])
            bench = Bench(machine, 2)
            bench.push(1, states - 1)
            before = told(bench)
            for state in NO_NUMBERS + (states, states + 1, 6):
                self.fails(BadState, bench.push, 0, state)
                self.fails(BadState, bench.push, 1, state)
            self.assertEqual(before, told(bench))

    def test_into_the_state_that_it_has(self):
        bench = Bench(LAST, 2)
        bench.push(0, 0)
        self.assertEqual(((0, 0), (), 0), told(bench))
        bench.read(1)
        bench.push(1, 1)
        self.assertEqual(((1, 1), (), 0), told(bench))
        self.assertEqual(1, bench.read(0))

    def test_several_of_one_copy_at_once(self):
        bench = Bench(GREATEST, 3)
        for state in (4, 0, 5, 2, 3):
            bench.push(1, state)
            self.assertEqual((0, state, 0), bench.states)
        bench.push(1, 0)
        self.assertEqual((), bench.astray)
        self.assertEqual(0, bench.read(0))
        self.assertEqual(0, bench.misses)

    def test_into_a_state_that_cannot_come(self):
        bench = Bench(ASIDE, 1)
        bench.push(0, 2)
        self.assertEqual((0,), bench.astray)
        self.assertEqual(1, bench.read(0))
        self.assertEqual(((0,), (0,), 1), told(bench))
        bench.push(0, 1)
        self.assertEqual(0, bench.read(0))
        self.assertEqual(((0,), (), 1), told(bench))

    def test_astray_goes_by_states_not_by_answers(self):
        bench = Bench(SILENT, 3)
        bench.push(2, 1)
        self.assertEqual(5, bench.read(0))
        self.assertEqual((2,), bench.astray)
        # The pushed copy answers no otherwise.
        self.assertEqual(0, bench.misses)


class Letters(Base):
    def test_letters_that_there_are_none_of(self):
        for machine in (RING, LAST, SILENT):
            letters = letters_of(machine)
            bench = Bench(machine, 2)
            bench.push(0, 1)
            bench.read(letters - 1)
            before = told(bench)
            for letter in NO_NUMBERS + (letters, letters + 1, 3):
                self.fails(BadLetters, bench.read, letter)
            self.assertEqual(before, told(bench))

    def test_no_vote(self):
        bench = Bench(RING, 2)
        bench.push(0, 1)
        self.assertIsNone(bench.read(0))
        self.assertEqual(((0, 1), (0,), 1), told(bench))
        self.assertIsNone(bench.read(0))
        self.assertEqual(2, bench.misses)
        bench.push(1, 1)
        self.assertEqual(1, bench.read(0))
        self.assertEqual(3, bench.misses)
        three = Bench(GREATEST, 3)
        three.push(1, 1)
        three.push(2, 2)
        self.assertIsNone(three.read(0))
        self.assertEqual(1, three.misses)
        four = Bench(GREATEST, 4)
        four.push(3, 2)
        four.push(1, 2)
        self.assertIsNone(four.read(2))

    def test_more_than_half_of_99(self):
        for pushed, vote in ((49, 0), (50, 1), (99, 1)):
            bench = Bench(RING, 99)
            for copy in range(pushed):
                bench.push(98 - copy, 1)
            self.assertEqual(vote, bench.read(0))
            self.assertEqual(vote, bench.misses)
            self.assertEqual(tuple(range(99 - pushed, 99)), bench.astray)

    def test_four_thousand_letters(self):
        bench = Bench(LAST, 3)
        word = tuple(place * place % 3 % 2 for place in range(4000))
        votes = [bench.read(letter) for letter in word]
        self.assertEqual([0] + list(word[:-1]), votes)
        before = told(bench)
        for letter in (0, 1):
            self.fails(BadStep, bench.read, letter)
        for letter in NO_NUMBERS + (2, 3):
            self.fails(BadLetters, bench.read, letter)
        self.assertEqual(before, told(bench))
        # Copies may still be pushed, but there is nothing that they read.
        bench.push(0, 1 - bench.states[0])
        self.assertEqual((0,), bench.astray)
        self.fails(BadNumber, bench.push, 3, 0)
        self.fails(BadState, bench.push, 2, 2)
        self.fails(BadStep, bench.read, 0)
        self.assertEqual(((0,), 0), (bench.astray, bench.misses))

    def test_pushes_do_not_count_as_letters(self):
        bench = Bench(RING, 1)
        for place in range(4000):
            bench.push(0, 1 - place % 2)
            bench.push(0, 1 - place % 2)
            bench.read(0)
        self.assertEqual(4000, bench.misses)
        self.fails(BadStep, bench.read, 0)


class AgainstASlowReading(Base):
    def follow(self, machine, copies, events):
        bench = Bench(machine, copies)
        done = []
        self.assertEqual(((0,) * copies, (), 0), told(bench))
        for event in events:
            done.append(event)
            if len(event) == 1:
                self.assertEqual(slow_vote(machine, copies, done), bench.read(event[0]), (machine, copies, done))
            else:
                self.assertIsNone(bench.push(*event))
            slow = (
                slow_states(machine, copies, done), slow_astray(machine, copies, done),
                slow_misses(machine, copies, done))
            self.assertEqual(slow, told(bench), (machine, copies, done))

    def test_all_short_sequences(self):
        for machine, copies, longest in ((RING, 2, 5), (LAST, 2, 4), (ASIDE, 1, 5)):
            states = len(machine[0])
            choices = [(letter,) for letter in range(letters_of(machine))]
            choices += list(product(range(copies), range(states)))
            for events in product(choices, repeat=longest):
                self.follow(machine, copies, events)

    def test_more_sequences(self):
        chance = Random(91)
        for machine in NAMED * 6 + tuple(some_machines(92, 250)) + tuple(small_machines()[::7]):
            copies = chance.choice((1, 2, 3, 4, 5, 8, 9))
            self.follow(machine, copies, some_events(chance, machine, copies, 16))

    def test_what_raises_an_error_changes_nothing(self):
        chance = Random(93)
        for machine in NAMED * 4 + tuple(some_machines(94, 100)):
            copies = chance.choice((1, 2, 3, 4))
            wrong = (
                (Bench.push, (copies, 0)), (Bench.push, (-1, 0)), (Bench.push, (0, len(machine[0]))),
                (Bench.push, (copies - 1, True)), (Bench.push, (True, 0)), (Bench.push, (0, None)),
                (Bench.read, (letters_of(machine),)), (Bench.read, (True,)), (Bench.read, (None,)), (Bench.read, ((),)))
            bench, other = Bench(machine, copies), Bench(machine, copies)
            for event in some_events(chance, machine, copies, 12):
                call, values = chance.choice(wrong)
                before = told(bench)
                with self.assertRaises((BadNumber, BadState, BadLetters)):
                    call(bench, *values)
                self.assertEqual(before, told(bench))
                step = Bench.read if len(event) == 1 else Bench.push
                self.assertEqual(step(other, *event), step(bench, *event))
                self.assertEqual(told(other), told(bench))

    def test_the_votes_are_those_of_a_course(self):
        chance = Random(95)
        for machine in NAMED * 3 + tuple(some_machines(96, 100)):
            copies = chance.choice((1, 2, 3, 4, 99))
            bench, struck, votes, place = Bench(machine, copies), {}, [], 0
            events = some_events(chance, machine, copies, 20)
            for event in events:
                if len(event) == 1:
                    votes.append(bench.read(*event))
                    place += 1
                else:
                    bench.push(*event)
                    struck.setdefault(place, {})[event[0]] = event[1]
            strikes = tuple((at, tuple(sorted(pushes.items()))) for at, pushes in struck.items())
            found = course(machine, copies, letters_read(events), strikes)
            self.assertEqual([vote for _, _, vote in found], votes)
            self.assertEqual(len([right for right, _, vote in found if vote != right]), bench.misses)


if __name__ == "__main__":
    unittest.main()
