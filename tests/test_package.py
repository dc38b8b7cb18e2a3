"""Point 1: what holds of the whole package, and the names of the interface."""

import ast
from copy import deepcopy
import inspect
from pathlib import Path
import unittest

import pushedclerks
from pushedclerks import benches, clerks, courses, lates, machines, tales, texts, windows
from pushedclerks.benches import Bench
from pushedclerks.clerks import are_enough, copies_needed, fewest_of_all, least_room, most_pushed
from pushedclerks.courses import course, shows_story, story, wrong_votes
from pushedclerks.errors import (
    BadLetters, BadLine, BadMachine, BadNumber, BadState, BadStep, BadStrikes, BadText, ClerkError, Forgets, Remembers,
)
from pushedclerks.lates import forgets, late, late_word, never_forgets, shows_late_word, shows_never_forgets
from pushedclerks.machines import answers, least_machine
from pushedclerks.tales import tale
from pushedclerks.texts import machine_text, read_machine, read_strikes, read_word, strikes_text, word_text
from pushedclerks.windows import window, window_answer, window_table
from tests.small import CHAIN, LAST, NAMED, ODD, RING, some_machines

FOLDER = Path(pushedclerks.__file__).parent
LIBRARY = {"heapq", "math", "itertools", "collections"}
INTERFACE = {
    machines: {"answers": ["machine", "state", "word"], "least_machine": ["machine"]},
    lates: {
        "late": ["machine"],
        "forgets": ["machine"],
        "late_word": ["machine"],
        "shows_late_word": ["machine", "value"],
        "never_forgets": ["machine"],
        "shows_never_forgets": ["machine", "value"],
    },
    windows: {
        "window": ["machine"],
        "window_answer": ["machine", "word"],
        "window_table": ["machine"],
    },
    clerks: {
        "copies_needed": ["machine", "pushed", "room"],
        "are_enough": ["machine", "copies", "pushed", "room"],
        "most_pushed": ["machine", "copies", "room"],
        "least_room": ["machine", "copies", "pushed"],
        "fewest_of_all": ["machine", "pushed", "room"],
    },
    courses: {
        "course": ["machine", "copies", "word", "strikes"],
        "wrong_votes": ["machine", "copies", "word", "strikes"],
        "story": ["machine", "copies", "pushed", "room"],
        "shows_story": ["machine", "copies", "pushed", "room", "value"],
    },
    benches: {"Bench": ["machine", "copies"]},
    texts: {
        "machine_text": ["machine"],
        "word_text": ["machine", "word"],
        "strikes_text": ["machine", "copies", "strikes"],
        "read_machine": ["text"],
        "read_word": ["machine", "text"],
        "read_strikes": ["machine", "copies", "text"],
    },
    tales: {"tale": ["machine", "copies", "word", "strikes"]},
}
# The methods of the classes, and their properties, without parameters here.
METHODS = {
    Bench: {
        "push": ["self", "copy", "state"],
        "read": ["self", "letter"],
        "states": None,
        "astray": None,
        "misses": None,
    },
}
OF_A_MACHINE = (least_machine, late, forgets, late_word, never_forgets, window, window_table, machine_text)
# The text of LAST, that of two strikes, and such of which some line is wrong.
TEXTS = ("0/0 1/0\n0/1 1/1\n", "0: 0>1\n1: 1>0\n", "0/0\n2/0\n", "", "\n", "0/0", "x\n", "aab", "ac", "b" * 4001)
SHOWS = (shows_late_word, shows_never_forgets)
# Strikes, right and wrong ones, a list in the place of each of their tuples.
STRIKES = (
    ((0, ((0, 1),)),), ((0, ((0, 1), (0, 1))),),
    [[0, [[0, 1]]]], ([0, ((0, 1),)],), ((0, [(0, 1)]),), ((0, ([0, 1],)),),
)


def outcome(call, *values):
    """Give what a call returns, or the kind and the fields of the error that it raises."""
    try:
        return "returned", call(*values)
    except ClerkError as error:
        return type(error), vars(error)


def at_work(machine, copies, copy, state, letter):
    """Give all that a bench tells behind a letter, a push and the letter once more."""
    bench = Bench(machine, copies)
    votes = (bench.read(letter), bench.push(copy, state), bench.read(letter))
    return votes, bench.states, bench.astray, bench.misses


class Interface(unittest.TestCase):
    def test_names_and_arguments(self):
        for module, names in INTERFACE.items():
            for name, parameters in names.items():
                with self.subTest(name):
                    found = getattr(module, name)
                    self.assertEqual(module.__name__, found.__module__)
                    self.assertEqual(parameters, list(inspect.signature(found).parameters))

    def test_methods(self):
        for kind, names in METHODS.items():
            for name, parameters in names.items():
                with self.subTest(kind=kind, name=name):
                    # In the class itself, not in one above it.
                    found = vars(kind)[name]
                    if parameters is None:
                        self.assertIsInstance(found, property)
                    else:
                        self.assertEqual(parameters, list(inspect.signature(found).parameters))

    def test_arguments_by_name(self):
        self.assertEqual((1, 0), answers(word=(0, 1), state=1, machine=LAST))
        self.assertIs(True, shows_late_word(value=((), 1, (0,)), machine=LAST))
        self.assertEqual(1, window_answer(word=(1, 0), machine=LAST))
        self.assertEqual(5, copies_needed(room=2, pushed=1, machine=CHAIN))
        self.assertEqual(2, least_room(pushed=1, copies=5, machine=CHAIN))
        self.assertEqual((0,), wrong_votes(strikes=((0, ((0, 1),)),), word=(0, 0), copies=1, machine=LAST))
        self.assertIs(True, shows_story(value=None, room=1, pushed=1, copies=3, machine=LAST))
        bench = Bench(copies=1, machine=LAST)
        self.assertEqual((None, 1), (bench.push(state=1, copy=0), bench.read(letter=0)))
        self.assertEqual("ab", word_text(word=(0, 1), machine=LAST))
        self.assertEqual("0: 0>1\n", strikes_text(strikes=((0, ((0, 1),)),), copies=1, machine=LAST))
        self.assertEqual((RING, (1,)), (read_machine(text="1/0\n0/1\n"), read_word(text="b", machine=LAST)))
        self.assertEqual(((0, ((0, 1),)),), read_strikes(text="0: 0>1\n", copies=1, machine=LAST))
        self.assertEqual("misses 0\n", tale(strikes=(), word=(), copies=1, machine=LAST))


class Errors(unittest.TestCase):
    def test_the_leftmost_argument_first(self):
        bad = (rows_of(7), rows_of(1))
        self.assertEqual((BadMachine, {"part": "steps"}), outcome(answers, bad, -1, (9,)))
        self.assertEqual((BadMachine, {"part": "steps"}), outcome(answers, bad, 0, (9,)))
        self.assertEqual((BadMachine, {"part": "machine"}), outcome(answers, None, None, None))
        self.assertEqual((BadState, {}), outcome(answers, LAST, 2, (9,)))
        self.assertEqual((BadState, {}), outcome(answers, LAST, True, [0]))
        self.assertEqual((BadState, {}), outcome(answers, LAST, -1, (0,) * 4001))
        self.assertEqual((BadLetters, {}), outcome(answers, LAST, 1, (0,) * 4001))

    def test_the_leftmost_argument_first_in_windows(self):
        self.assertEqual((BadMachine, {"part": "machine"}), outcome(window_answer, (), ()))
        self.assertEqual((BadMachine, {"part": "answers"}), outcome(window_answer, (rows_of(1), ((10,),)), (9,)))

    def test_the_leftmost_argument_first_in_clerks(self):
        for call in (copies_needed, most_pushed, least_room, fewest_of_all):
            self.assertEqual((BadMachine, {"part": "steps"}), outcome(call, (rows_of(7), rows_of(7)), -1, 99))
            self.assertEqual((BadMachine, {"part": "machine"}), outcome(call, None, None, None))
            self.assertEqual((BadNumber, {}), outcome(call, LAST, -1, 99))
        self.assertEqual((BadMachine, {"part": "machine"}), outcome(are_enough, LAST[:1], 0, -1, 0))

    def test_the_leftmost_argument_first_in_courses(self):
        for call in (course, wrong_votes, tale):
            self.assertEqual((BadMachine, {"part": "machine"}), outcome(call, None, 0, (9,), None))
            self.assertEqual((BadNumber, {}), outcome(call, LAST, 0, (9,), None))
            self.assertEqual((BadNumber, {}), outcome(call, LAST, True, (0,), ((0, ()),)))
            self.assertEqual((BadLetters, {}), outcome(call, LAST, 1, (9,), None))
            self.assertEqual((BadLetters, {}), outcome(call, LAST, 1, (0,) * 4001, ((0, ()),)))
            self.assertEqual((BadStrikes, {"index": None}), outcome(call, LAST, 1, (0,), None))
            self.assertEqual((BadStrikes, {"index": 0}), outcome(call, LAST, 1, (0,), ((0, ()), (0, ()))))
        self.assertEqual((BadMachine, {"part": "machine"}), outcome(story, None, 0, -1, 0))
        self.assertEqual((BadMachine, {"part": "machine"}), outcome(shows_story, None, 0, -1, 0, 0))
        self.assertEqual((BadNumber, {}), outcome(story, LAST, 0, -1, 0))
        self.assertEqual((BadNumber, {}), outcome(shows_story, LAST, 0, -1, 0, 0))

    def test_the_leftmost_argument_first_in_benches(self):
        self.assertEqual((BadMachine, {"part": "machine"}), outcome(Bench, None, 0))
        self.assertEqual((BadMachine, {"part": "answers"}), outcome(Bench, (rows_of(1), ((10,),)), True))
        bench = Bench(RING, 2)
        self.assertEqual((BadNumber, {}), outcome(bench.push, 2, 2))
        self.assertEqual((BadState, {}), outcome(bench.push, 1, 2))
        for _ in range(4000):
            bench.read(0)
        self.assertEqual((BadLetters, {}), outcome(bench.read, 1))
        self.assertEqual((BadStep, {}), outcome(bench.read, 0))

    def test_the_leftmost_argument_first_in_texts(self):
        for call in (word_text, read_word):
            self.assertEqual((BadMachine, {"part": "steps"}), outcome(call, (rows_of(7), rows_of(7)), None))
        self.assertEqual((BadMachine, {"part": "answers"}), outcome(machine_text, (rows_of(1), ((10,),))))
        self.assertEqual((BadText, {"place": 0}), outcome(read_word, LAST, None))
        self.assertEqual((BadLetters, {}), outcome(word_text, LAST, None))
        for call in (strikes_text, read_strikes):
            self.assertEqual((BadMachine, {"part": "machine"}), outcome(call, None, 0, None))
            self.assertEqual((BadNumber, {}), outcome(call, LAST, 0, None))
        self.assertEqual((BadLine, {"line": 0}), outcome(read_strikes, LAST, 1, None))
        self.assertEqual((BadLine, {"line": 0}), outcome(read_machine, None))
        self.assertEqual((BadStrikes, {"index": None}), outcome(strikes_text, LAST, 1, None))

    def test_remembers_behind_the_errors_of_the_arguments(self):
        self.assertEqual((Remembers, {}), outcome(window_table, RING))
        self.assertEqual((BadMachine, {"part": "answers"}), outcome(window_table, (RING[0], ((0,), (10,)))))
        self.assertEqual((BadMachine, {"part": "answers"}), outcome(window_answer, (RING[0], ((0,), (10,))), (0,)))
        self.assertEqual((Remembers, {}), outcome(window_answer, RING, (0,)))
        for word in ((), (1,), None, [0], (0,) * 4001):
            self.assertEqual((BadLetters, {}), outcome(window_answer, RING, word))

    def test_of_one_argument_the_first_named(self):
        self.assertEqual((BadMachine, {"part": "machine"}), outcome(late, (rows_of(7), ((10,),), 0)))
        self.assertEqual((BadMachine, {"part": "steps"}), outcome(late, (rows_of(7), ((10,),))))
        self.assertEqual((BadMachine, {"part": "answers"}), outcome(late, (rows_of(1), ((10,),))))

    def test_forgets_behind_the_errors_of_the_arguments(self):
        self.assertEqual((Forgets, {}), outcome(never_forgets, (rows_of(1), ((9,),))))
        self.assertEqual((BadMachine, {"part": "answers"}), outcome(never_forgets, (rows_of(1), ((10,),))))
        self.assertEqual((BadMachine, {"part": "steps"}), outcome(never_forgets, (rows_of(7), rows_of(7))))

    def test_a_wrong_machine_whatever_the_value(self):
        for shows in SHOWS:
            for value in ODD + (None, ((), 1, (0,)), ((), 1, (0, 0), (0,))):
                self.assertEqual((BadMachine, {"part": "machine"}), outcome(shows, (), value))
                self.assertEqual((BadMachine, {"part": "answers"}), outcome(shows, (rows_of(1), ((True,),)), value))


class Arguments(unittest.TestCase):
    def calls(self):
        for machine in NAMED + ODD + (None, [list(LAST[0]), list(LAST[1])], (list(RING[0]), [[0], [1]])):
            for call in OF_A_MACHINE:
                yield call, (machine,)
            for value in ODD + (None, [[], 1, [0]], ([], 1, [0, 0], {}), ((), 1, (0, 0), (0,))):
                for shows in SHOWS:
                    yield shows, (machine, value)
                yield answers, (machine, value, value)
                yield answers, (machine, 0, value)
                yield from self.later_calls(machine, value)
            for text in TEXTS:
                yield from self.later_calls(machine, text)
            for strikes in STRIKES:
                yield from self.later_calls(machine, strikes)
                yield shows_story, (machine, 2, 1, 1, ((0,), strikes))
                yield shows_story, (machine, 2, 1, 1, [[0], strikes])

    def later_calls(self, machine, value):
        yield window_answer, (machine, value)
        for call in (copies_needed, most_pushed, least_room, fewest_of_all):
            yield call, (machine, value, 1)
            yield call, (machine, 1, value)
        for call in (are_enough, story):
            yield call, (machine, 2, 1, value)
        yield at_work, (machine, value, 0, 0, 0)
        yield at_work, (machine, 2, value, 1, 0)
        yield at_work, (machine, 2, 1, value, 0)
        yield at_work, (machine, 2, 1, 1, value)
        yield read_machine, (value,)
        for call in (word_text, read_word):
            yield call, (machine, value)
        for call in (strikes_text, read_strikes):
            yield call, (machine, value, ())
            yield call, (machine, 2, value)
        for call in (course, wrong_votes, tale):
            yield call, (machine, 2, (0, 0), value)
            yield call, (machine, 2, value, ((1, ((0, 0),)),))
        yield shows_story, (machine, 2, 1, 1, value)
        yield shows_story, (machine, 3, 1, 1, value)

    def test_they_are_not_modified(self):
        for call, values in self.calls():
            before = deepcopy(values)
            outcome(call, *values)
            self.assertEqual(repr(before), repr(values))

    def test_equal_ones_have_equal_answers(self):
        for call, values in self.calls():
            self.assertEqual(outcome(call, *values), outcome(call, *deepcopy(values)))

    def test_calls_between_change_no_answer(self):
        many = NAMED + tuple(some_machines(31, 60))
        first = [outcome(call, machine) for machine in many for call in OF_A_MACHINE]
        last = [outcome(call, machine) for machine in reversed(many) for call in reversed(OF_A_MACHINE)]
        self.assertEqual(first, last[::-1])
        first = [outcome(story, machine, 4, 1, room) for machine in many for room in (1, 2, 3)]
        last = [outcome(story, machine, 4, 1, room) for machine in reversed(many) for room in (3, 2, 1)]
        self.assertEqual(first, last[::-1])

    def test_only_true_and_false_are_shown(self):
        for machine in NAMED:
            for value in ODD + (None, ((), 1, (0,)), ((), 1, (0, 0), (0,)), ((), 1, (), ()), ((), 1, ())):
                for shows in SHOWS:
                    self.assertIs(bool, type(shows(machine, value)))
                for copies in (2, 3):
                    self.assertIs(bool, type(shows_story(machine, copies, 1, 1, value)))


class Files(unittest.TestCase):
    def trees(self):
        for path in sorted(FOLDER.glob("*.py")):
            yield path, ast.parse(path.read_text(encoding="utf-8"))

    def test_no_clock_no_randomness_no_files(self):
        for path, tree in self.trees():
            for node in ast.walk(tree):
                self.assertNotIsInstance(node, ast.Import, path)
                if isinstance(node, ast.ImportFrom):
                    self.assertEqual(0, node.level, path)
                    self.assertIn(node.module.split(".")[0], LIBRARY | {"pushedclerks"}, path)
                if isinstance(node, ast.Name):
                    self.assertNotIn(node.id, ("open", "input", "exec", "eval", "hash", "id", "print"), path)

    def test_sizes(self):
        for path, tree in self.trees():
            lines = path.read_text(encoding="utf-8").splitlines()
            self.assertLessEqual(len(lines), 399, path)
            self.assertLessEqual(max(map(len, lines), default=0), 120, path)
            self.assertTrue(all(" " <= sign <= "~" for line in lines for sign in line), path)
            for node in ast.walk(tree):
                if isinstance(node, ast.FunctionDef):
                    self.assertLessEqual(node.end_lineno - node.lineno + 1, 40, (path, node.name))

    def test_nothing_but_program_files(self):
        found = [path for path in FOLDER.iterdir() if path.suffix != ".py" and path.name != "__pycache__"]
        self.assertEqual([], found)


def rows_of(states):
    return ((0,),) * states


if __name__ == "__main__":
    unittest.main()
