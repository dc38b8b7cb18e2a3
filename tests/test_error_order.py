"""Point 1: which error is raised where several apply."""

from itertools import product
import unittest

from pushedclerks import benches, desks
from pushedclerks.benches import Bench
from pushedclerks.chances import right_chances
from pushedclerks.desks import Desk
from pushedclerks.errors import (
    BadChance, BadLetters, BadLine, BadMachine, BadNumber, BadState, BadStep, BadStrikes, BadText, BadWeights, Forgets,
    Remembers,
)
from pushedclerks.lates import late, never_forgets
from pushedclerks.texts import read_machine, read_strikes, read_word
from pushedclerks.windows import window_answer, window_table
from tests.small import LAST, ODD, RING, outcome
from tests.test_package import INTERFACE, SHOWS

# For each argument a value that is right for LAST and three copies, and such that are not, with their errors.
ARGUMENTS = {
    "machine": (LAST, (
        (None, BadMachine, {"part": "machine"}), (((), ()), BadMachine, {"part": "steps"}),
        ((LAST[0], ((0, 0), (1, 10))), BadMachine, {"part": "answers"}))),
    "state": (1, ((2, BadState, {}), (True, BadState, {}))),
    "word": ((1, 0), (((2,), BadLetters, {}), ((0,) * 4001, BadLetters, {}), (None, BadLetters, {}))),
    "way": ((1, 0), (((2,), BadLetters, {}), ([], BadLetters, {}))),
    "copies": (3, ((0, BadNumber, {}), (100, BadNumber, {}), (True, BadNumber, {}))),
    "pushed": (1, ((10, BadNumber, {}), (-1, BadNumber, {}), (None, BadNumber, {}))),
    "room": (2, ((61, BadNumber, {}), (0, BadNumber, {}), ("1", BadNumber, {}))),
    "strikes": (((1, ((0, 1),)),), (
        (None, BadStrikes, {"index": None}), ((None,), BadStrikes, {"index": 0}),
        (((0, ((0, 1),)), (1, ((3, 1),))), BadStrikes, {"index": 1}))),
    "weights": ((3, 1, 1), (((), BadWeights, {}), ((1, 100), BadWeights, {}), ([1], BadWeights, {}))),
    "chance": ((1, 2), (((2, 1), BadChance, {}), ((0, 0), BadChance, {}), (0, BadChance, {}))),
    # Any value is right.
    "value": ((), ()),
}
TEXTS = {
    read_machine: ("0/0\n", ((None, BadLine, {"line": 0}), ("1/0\n2/0\n", BadLine, {"line": 1}))),
    read_word: ("ab", ((None, BadText, {"place": 0}), ("abc", BadText, {"place": 2}))),
    read_strikes: ("0: 0>1\n", ((None, BadLine, {"line": 0}), ("0: 0>1\n1: 3>1\n", BadLine, {"line": 1}))),
}


class TheLeftmostArgument(unittest.TestCase):
    def calls(self, call, parameters):
        """List calls with each choice of arguments that are right or wrong, each with its first wrong one's error."""
        choices = []
        for name in parameters:
            right, wrong = TEXTS[call] if name == "text" else ARGUMENTS[name]
            choices.append([(right, None, None), *wrong])
        for chosen in product(*choices):
            values = [value for value, _, _ in chosen]
            errors = [(error, fields) for _, error, fields in chosen if error is not None]
            yield values, errors[0] if errors else None

    def test_all_functions(self):
        many = 0
        for module, names in INTERFACE.items():
            for name, parameters in names.items():
                call = getattr(module, name)
                for values, error in self.calls(call, parameters):
                    many += 1
                    found = outcome(call, *values)
                    with self.subTest(name, values=repr(values)[:200]):
                        if error is not None:
                            self.assertEqual(error, found)
                        elif name == "never_forgets":
                            self.assertEqual((Forgets, {}), found)
                        else:
                            self.assertEqual("returned", found[0])
        self.assertGreater(many, 2000)

    def test_any_value_for_any_argument(self):
        # Of no wrong value but the first one anything is looked at, whatever it may be.
        for module, names in INTERFACE.items():
            for name, parameters in names.items():
                call = getattr(module, name)
                rights = [TEXTS[call][0] if each == "text" else ARGUMENTS[each][0] for each in parameters]
                for place, each in enumerate(parameters):
                    for value in (None, True, "", -1, [], {}, {0: [0]}, [[]], ((),) * 7, ((((),),),), "\0", 10 ** 30):
                        values = rights[:place] + [value] * (len(rights) - place)
                        found = outcome(call, *values)
                        if each == "value":
                            self.assertIn(found, (("returned", True), ("returned", False)))
                        elif each == "text" and value == "" or found[0] == "returned":
                            continue
                        else:
                            kinds = {error for _, error, _ in (TEXTS[call] if each == "text" else ARGUMENTS[each])[1]}
                            self.assertIn(found[0], kinds, (name, values))

    def test_ways_ahead_of_words(self):
        self.assertEqual((BadLetters, {}), outcome(right_chances, LAST, 3, (1, 2), (0,), (2,)))
        self.assertEqual((BadChance, {}), outcome(right_chances, LAST, 3, (1, 101), (2,), (2,)))
        # A bench's and a desk's number of copies may be greater than that of chances.
        self.assertEqual((BadNumber, {}), outcome(right_chances, LAST, 26, (1, 101), (2,), (2,)))
        for kind in (benches.Bench, desks.Desk):
            self.assertEqual("returned", outcome(kind, LAST, 26)[0])


class OfOneArgument(unittest.TestCase):
    def test_the_first_named(self):
        self.assertEqual((BadMachine, {"part": "machine"}), outcome(late, (rows_of(7), ((10,),), 0)))
        self.assertEqual((BadMachine, {"part": "steps"}), outcome(late, (rows_of(7), ((10,),))))
        self.assertEqual((BadMachine, {"part": "answers"}), outcome(late, (rows_of(1), ((10,),))))

    def test_a_wrong_machine_whatever_the_value(self):
        for shows in SHOWS:
            for value in ODD + (None, ((), 1, (0,)), ((), 1, (0, 0), (0,)), (0, 1)):
                self.assertEqual((BadMachine, {"part": "machine"}), outcome(shows, (), value))
                self.assertEqual((BadMachine, {"part": "answers"}), outcome(shows, (rows_of(1), ((True,),)), value))


class Behind(unittest.TestCase):
    """Forgets, Remembers and BadStep come behind the errors of all arguments."""

    def test_forgets(self):
        self.assertEqual((Forgets, {}), outcome(never_forgets, (rows_of(1), ((9,),))))
        self.assertEqual((BadMachine, {"part": "answers"}), outcome(never_forgets, (rows_of(1), ((10,),))))
        self.assertEqual((BadMachine, {"part": "steps"}), outcome(never_forgets, (rows_of(7), rows_of(7))))

    def test_remembers(self):
        self.assertEqual((Remembers, {}), outcome(window_table, RING))
        self.assertEqual((BadMachine, {"part": "answers"}), outcome(window_table, (RING[0], ((0,), (10,)))))
        self.assertEqual((BadMachine, {"part": "answers"}), outcome(window_answer, (RING[0], ((0,), (10,))), (0,)))
        self.assertEqual((Remembers, {}), outcome(window_answer, RING, (0,)))
        for word in ((), (1,), None, [0], (0,) * 4001):
            self.assertEqual((BadLetters, {}), outcome(window_answer, RING, word))

    def test_steps_of_benches_and_desks(self):
        bench, desk = Bench(RING, 2), Desk(RING, 2)
        self.assertEqual((BadStep, {}), outcome(desk.do, "back"))
        for _ in range(4000):
            bench.read(0)
            desk.do("a")
        for letter in (1, -1, True, None):
            self.assertEqual((BadLetters, {}), outcome(bench.read, letter))
        self.assertEqual((BadStep, {}), outcome(bench.read, 0))
        for line in ("b", "", "a ", None):
            self.assertEqual((BadLine, {"line": 0}), outcome(desk.do, line))
        self.assertEqual((BadStep, {}), outcome(desk.do, "a"))

    def test_copies_ahead_of_states(self):
        bench, desk = Bench(RING, 2), Desk(RING, 2)
        self.assertEqual((BadNumber, {}), outcome(bench.push, 2, 2))
        self.assertEqual((BadNumber, {}), outcome(desk.do, "push 2 2"))
        self.assertEqual((BadState, {}), outcome(bench.push, 1, 2))
        self.assertEqual((BadState, {}), outcome(desk.do, "push 1 2"))


def rows_of(states):
    return ((0,),) * states


if __name__ == "__main__":
    unittest.main()
