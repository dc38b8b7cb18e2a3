"""Point 1: what holds of the whole package, and the names of the interface."""

import ast
from copy import deepcopy
import inspect
from pathlib import Path
import unittest

import pushedclerks
from pushedclerks import lates, machines
from pushedclerks.errors import BadLetters, BadMachine, BadState, ClerkError, Forgets
from pushedclerks.lates import forgets, late, late_word, never_forgets, shows_late_word, shows_never_forgets
from pushedclerks.machines import answers, least_machine
from tests.small import LAST, NAMED, ODD, RING, some_machines

FOLDER = Path(pushedclerks.__file__).parent
LIBRARY = {"heapq", "math", "itertools", "collections"}
INTERFACE = {
    machines: {"answers": ["machine", "state", "word"], "least_machine": ["machine"]},
    lates: {
        "late": ["machine"],
        "forgets": ["machine"],
        "late_word": ["machine"],
        "shows_late_word": ["machine", "value"],
        "never_forgets": ["machine"],
        "shows_never_forgets": ["machine", "value"],
    },
}
OF_A_MACHINE = (least_machine, late, forgets, late_word, never_forgets)
SHOWS = (shows_late_word, shows_never_forgets)


def outcome(call, *values):
    """Give what a call returns, or the kind and the fields of the error that it raises."""
    try:
        return "returned", call(*values)
    except ClerkError as error:
        return type(error), vars(error)


class Interface(unittest.TestCase):
    def test_names_and_arguments(self):
        for module, names in INTERFACE.items():
            for name, parameters in names.items():
                with self.subTest(name):
                    found = getattr(module, name)
                    self.assertEqual(module.__name__, found.__module__)
                    self.assertEqual(parameters, list(inspect.signature(found).parameters))

    def test_arguments_by_name(self):
        self.assertEqual((1, 0), answers(word=(0, 1), state=1, machine=LAST))
        self.assertIs(True, shows_late_word(value=((), 1, (0,)), machine=LAST))


class Errors(unittest.TestCase):
    def test_the_leftmost_argument_first(self):
        bad = (rows_of(7), rows_of(1))
        self.assertEqual((BadMachine, {"part": "steps"}), outcome(answers, bad, -1, (9,)))
        self.assertEqual((BadMachine, {"part": "steps"}), outcome(answers, bad, 0, (9,)))
        self.assertEqual((BadMachine, {"part": "machine"}), outcome(answers, None, None, None))
        self.assertEqual((BadState, {}), outcome(answers, LAST, 2, (9,)))
        self.assertEqual((BadState, {}), outcome(answers, LAST, True, [0]))
        self.assertEqual((BadState, {}), outcome(answers, LAST, -1, (0,) * 4001))
        self.assertEqual((BadLetters, {}), outcome(answers, LAST, 1, (0,) * 4001))

    def test_of_one_argument_the_first_named(self):
        self.assertEqual((BadMachine, {"part": "machine"}), outcome(late, (rows_of(7), ((10,),), 0)))
        self.assertEqual((BadMachine, {"part": "steps"}), outcome(late, (rows_of(7), ((10,),))))
        self.assertEqual((BadMachine, {"part": "answers"}), outcome(late, (rows_of(1), ((10,),))))

    def test_forgets_behind_the_errors_of_the_arguments(self):
        self.assertEqual((Forgets, {}), outcome(never_forgets, (rows_of(1), ((9,),))))
        self.assertEqual((BadMachine, {"part": "answers"}), outcome(never_forgets, (rows_of(1), ((10,),))))
        self.assertEqual((BadMachine, {"part": "steps"}), outcome(never_forgets, (rows_of(7), rows_of(7))))

    def test_a_wrong_machine_whatever_the_value(self):
        for shows in SHOWS:
            for value in ODD + (None, ((), 1, (0,)), ((), 1, (0, 0), (0,))):
                self.assertEqual((BadMachine, {"part": "machine"}), outcome(shows, (), value))
                self.assertEqual((BadMachine, {"part": "answers"}), outcome(shows, (rows_of(1), ((True,),)), value))


class Arguments(unittest.TestCase):
    def calls(self):
        for machine in NAMED + ODD + (None, [list(LAST[0]), list(LAST[1])], (list(RING[0]), [[0], [1]])):
            for call in OF_A_MACHINE:
                yield call, (machine,)
            for value in ODD + (None, [[], 1, [0]], ([], 1, [0, 0], {}), ((), 1, (0, 0), (0,))):
                for shows in SHOWS:
                    yield shows, (machine, value)
                yield answers, (machine, value, value)
                yield answers, (machine, 0, value)

    def test_they_are_not_modified(self):
        for call, values in self.calls():
            before = deepcopy(values)
            outcome(call, *values)
            self.assertEqual(repr(before), repr(values))

    def test_equal_ones_have_equal_answers(self):
        for call, values in self.calls():
            self.assertEqual(outcome(call, *values), outcome(call, *deepcopy(values)))

    def test_calls_between_change_no_answer(self):
        many = NAMED + tuple(some_machines(31, 60))
        first = [outcome(call, machine) for machine in many for call in OF_A_MACHINE]
        last = [outcome(call, machine) for machine in reversed(many) for call in reversed(OF_A_MACHINE)]
        self.assertEqual(first, last[::-1])

    def test_only_true_and_false_are_shown(self):
        for machine in NAMED:
            for value in ODD + (None, ((), 1, (0,)), ((), 1, (0, 0), (0,)), ((), 1, (), ()), ((), 1, ())):
                for shows in SHOWS:
                    self.assertIs(bool, type(shows(machine, value)))


class Files(unittest.TestCase):
    def trees(self):
        for path in sorted(FOLDER.glob("*.py")):
            yield path, ast.parse(path.read_text(encoding="utf-8"))

    def test_no_clock_no_randomness_no_files(self):
        for path, tree in self.trees():
            for node in ast.walk(tree):
                self.assertNotIsInstance(node, ast.Import, path)
                if isinstance(node, ast.ImportFrom):
                    self.assertEqual(0, node.level, path)
                    self.assertIn(node.module.split(".")[0], LIBRARY | {"pushedclerks"}, path)
                if isinstance(node, ast.Name):
                    self.assertNotIn(node.id, ("open", "input", "exec", "eval", "hash", "id", "print"), path)

    def test_sizes(self):
        for path, tree in self.trees():
            lines = path.read_text(encoding="utf-8").splitlines()
            self.assertLessEqual(len(lines), 399, path)
            self.assertLessEqual(max(map(len, lines), default=0), 120, path)
            self.assertTrue(all(" " <= sign <= "~" for line in lines for sign in line), path)
            for node in ast.walk(tree):
                if isinstance(node, ast.FunctionDef):
                    self.assertLessEqual(node.end_lineno - node.lineno + 1, 40, (path, node.name))

    def test_nothing_but_program_files(self):
        found = [path for path in FOLDER.iterdir() if path.suffix != ".py" and path.name != "__pycache__"]
        self.assertEqual([], found)


def rows_of(states):
    return ((0,),) * states


if __name__ == "__main__":
    unittest.main()
