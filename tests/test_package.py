"""Point 1: what holds of the whole package, and the names of the interface."""

import ast
from copy import deepcopy
import inspect
from pathlib import Path
import unittest

import pushedclerks
from pushedclerks import (
    benches, chances, clears, clerks, courses, desks, lates, machines, tales, texts, weights, windows,
)
from pushedclerks.benches import Bench
from pushedclerks.chances import mean_misses, right_chances
from pushedclerks.clears import cleared_by, clearing_word, clears as is_clear, parted_pair, shows_parted_pair
from pushedclerks.clerks import are_enough, copies_needed, fewest_of_all, least_room, most_pushed
from pushedclerks.courses import course, shows_story, story, wrong_votes
from pushedclerks.desks import Desk
from pushedclerks.lates import forgets, late, late_word, never_forgets, shows_late_word, shows_never_forgets
from pushedclerks.machines import answers, least_machine
from pushedclerks.tales import tale
from pushedclerks.texts import machine_text, read_machine, read_strikes, read_word, strikes_text, word_text
from pushedclerks.weights import are_heavy, heavy_story, lightest_side, most_heavy, shows_heavy_story
from pushedclerks.windows import window, window_answer, window_table
from tests.small import CHAIN, LAST, NAMED, ODD, RING, outcome, some_machines

FOLDER = Path(pushedclerks.__file__).parent
# The lines for a desk, of which some are wrong.
LINES = ("push 1 0", "push 1 1", "push 9 0", "push 0 9", "a", "b", "c", "back", "astray", "misses", "states", "pushes")
LIBRARY = {"heapq", "math", "itertools", "collections"}
INTERFACE = {
    machines: {"answers": ["machine", "state", "word"], "least_machine": ["machine"]},
    lates: {
        "late": ["machine"],
        "forgets": ["machine"],
        "late_word": ["machine"],
        "shows_late_word": ["machine", "value"],
        "never_forgets": ["machine"],
        "shows_never_forgets": ["machine", "value"],
    },
    windows: {
        "window": ["machine"],
        "window_answer": ["machine", "word"],
        "window_table": ["machine"],
    },
    clerks: {
        "copies_needed": ["machine", "pushed", "room"],
        "are_enough": ["machine", "copies", "pushed", "room"],
        "most_pushed": ["machine", "copies", "room"],
        "least_room": ["machine", "copies", "pushed"],
        "fewest_of_all": ["machine", "pushed", "room"],
    },
    courses: {
        "course": ["machine", "copies", "word", "strikes"],
        "wrong_votes": ["machine", "copies", "word", "strikes"],
        "story": ["machine", "copies", "pushed", "room"],
        "shows_story": ["machine", "copies", "pushed", "room", "value"],
    },
    benches: {"Bench": ["machine", "copies"]},
    texts: {
        "machine_text": ["machine"],
        "word_text": ["machine", "word"],
        "strikes_text": ["machine", "copies", "strikes"],
        "read_machine": ["text"],
        "read_word": ["machine", "text"],
        "read_strikes": ["machine", "copies", "text"],
    },
    tales: {"tale": ["machine", "copies", "word", "strikes"]},
    weights: {
        "are_heavy": ["machine", "weights", "pushed", "room"],
        "lightest_side": ["machine", "weights", "pushed", "room"],
        "heavy_story": ["machine", "weights", "pushed", "room"],
        "shows_heavy_story": ["machine", "weights", "pushed", "room", "value"],
        "most_heavy": ["weights"],
    },
    chances: {
        "right_chances": ["machine", "copies", "chance", "way", "word"],
        "mean_misses": ["machine", "copies", "chance", "way", "word"],
    },
    clears: {
        "clears": ["machine", "word"],
        "clearing_word": ["machine"],
        "parted_pair": ["machine"],
        "shows_parted_pair": ["machine", "value"],
        "cleared_by": ["machine", "copies", "word", "strikes"],
    },
    desks: {"Desk": ["machine", "copies"]},
}
# The methods of the classes, and their properties, without parameters here.
METHODS = {
    Bench: {
        "push": ["self", "copy", "state"],
        "read": ["self", "letter"],
        "states": None,
        "astray": None,
        "misses": None,
    },
    Desk: {"do": ["self", "line"], "word": ["self"], "pushes": ["self"]},
}
OF_A_MACHINE = (
    least_machine, late, forgets, late_word, never_forgets, window, window_table, machine_text, clearing_word,
    parted_pair,
)
# The text of LAST, that of two strikes, and such of which some line is wrong.
TEXTS = ("0/0 1/0\n0/1 1/1\n", "0: 0>1\n1: 1>0\n", "0/0\n2/0\n", "", "\n", "0/0", "x\n", "aab", "ac", "b" * 4001)
SHOWS = (shows_late_word, shows_never_forgets, shows_parted_pair)
OF_WEIGHTS = (are_heavy, lightest_side, heavy_story)
BY_CHANCE = (right_chances, mean_misses)
# Strikes, right and wrong ones, a list in the place of each of their tuples.
STRIKES = (
    ((0, ((0, 1),)),), ((0, ((0, 1), (0, 1))),),
    [[0, [[0, 1]]]], ([0, ((0, 1),)],), ((0, [(0, 1)]),), ((0, ([0, 1],)),),
)


def at_work(machine, copies, copy, state, letter):
    """Give all that a bench tells behind a letter, a push and the letter once more."""
    bench = Bench(machine, copies)
    votes = (bench.read(letter), bench.push(copy, state), bench.read(letter))
    return votes, bench.states, bench.astray, bench.misses


def led_by(machine, copies, line):
    """Give all that a desk answers to lines, one of them twice, and what it tells then."""
    desk = Desk(machine, copies)
    told = [desk.do(each) for each in ("push 0 0", line, "a", line, "states", "astray", "misses")]
    return told, desk.word(), desk.pushes()


class Interface(unittest.TestCase):
    def test_names_and_arguments(self):
        for module, names in INTERFACE.items():
            for name, parameters in names.items():
                with self.subTest(name):
                    found = getattr(module, name)
                    self.assertEqual(module.__name__, found.__module__)
                    self.assertEqual(parameters, list(inspect.signature(found).parameters))

    def test_methods(self):
        for kind, names in METHODS.items():
            for name, parameters in names.items():
                with self.subTest(kind=kind, name=name):
                    # In the class itself, not in one above it.
                    found = vars(kind)[name]
                    if parameters is None:
                        self.assertIsInstance(found, property)
                    else:
                        self.assertEqual(parameters, list(inspect.signature(found).parameters))

    def test_arguments_by_name(self):
        self.assertEqual((1, 0), answers(word=(0, 1), state=1, machine=LAST))
        self.assertIs(True, shows_late_word(value=((), 1, (0,)), machine=LAST))
        self.assertEqual(1, window_answer(word=(1, 0), machine=LAST))
        self.assertEqual(5, copies_needed(room=2, pushed=1, machine=CHAIN))
        self.assertEqual(2, least_room(pushed=1, copies=5, machine=CHAIN))
        self.assertEqual((0,), wrong_votes(strikes=((0, ((0, 1),)),), word=(0, 0), copies=1, machine=LAST))
        self.assertIs(True, shows_story(value=None, room=1, pushed=1, copies=3, machine=LAST))
        bench = Bench(copies=1, machine=LAST)
        self.assertEqual((None, 1), (bench.push(state=1, copy=0), bench.read(letter=0)))
        self.assertEqual("ab", word_text(word=(0, 1), machine=LAST))
        self.assertEqual("0: 0>1\n", strikes_text(strikes=((0, ((0, 1),)),), copies=1, machine=LAST))
        self.assertEqual((RING, (1,)), (read_machine(text="1/0\n0/1\n"), read_word(text="b", machine=LAST)))
        self.assertEqual(((0, ((0, 1),)),), read_strikes(text="0: 0>1\n", copies=1, machine=LAST))
        self.assertEqual("misses 0\n", tale(strikes=(), word=(), copies=1, machine=LAST))
        self.assertEqual(3, lightest_side(room=1, pushed=1, weights=(3, 1, 1, 1), machine=LAST))
        self.assertIs(True, shows_heavy_story(value=((0,), ()), room=1, pushed=0, weights=(3,), machine=LAST))
        self.assertEqual((1, 2), mean_misses(word=(0,), way=(1,), chance=(1, 1), copies=1, machine=LAST))
        self.assertEqual((True, True), (is_clear(word=(0,), machine=LAST), shows_parted_pair(value=None, machine=LAST)))
        self.assertEqual((0, 1), cleared_by(strikes=((0, ((0, 1),)),), word=(0,), copies=1, machine=LAST))
        desk = Desk(copies=1, machine=LAST)
        self.assertEqual(("vote 0", (0,), ()), (desk.do(line="a"), desk.word(), desk.pushes()))


class Arguments(unittest.TestCase):
    def calls(self):
        for machine in NAMED + ODD + (None, [list(LAST[0]), list(LAST[1])], (list(RING[0]), [[0], [1]])):
            for call in OF_A_MACHINE:
                yield call, (machine,)
            for value in ODD + (None, [[], 1, [0]], ([], 1, [0, 0], {}), ((), 1, (0, 0), (0,))):
                for shows in SHOWS:
                    yield shows, (machine, value)
                yield answers, (machine, value, value)
                yield answers, (machine, 0, value)
                yield from self.later_calls(machine, value)
            for text in TEXTS + LINES:
                yield from self.later_calls(machine, text)
            for value in ((3, 1, 1), (1, 3), (100, 100), [3, 1], [1, 3], (0, [1])):
                yield from self.last_calls(machine, value)
            for strikes in STRIKES:
                yield from self.later_calls(machine, strikes)
                yield shows_story, (machine, 2, 1, 1, ((0,), strikes))
                yield shows_story, (machine, 2, 1, 1, [[0], strikes])

    def later_calls(self, machine, value):
        yield window_answer, (machine, value)
        for call in (copies_needed, most_pushed, least_room, fewest_of_all):
            yield call, (machine, value, 1)
            yield call, (machine, 1, value)
        for call in (are_enough, story):
            yield call, (machine, 2, 1, value)
        yield at_work, (machine, value, 0, 0, 0)
        yield at_work, (machine, 2, value, 1, 0)
        yield at_work, (machine, 2, 1, value, 0)
        yield at_work, (machine, 2, 1, 1, value)
        yield read_machine, (value,)
        for call in (word_text, read_word):
            yield call, (machine, value)
        for call in (strikes_text, read_strikes):
            yield call, (machine, value, ())
            yield call, (machine, 2, value)
        yield from self.last_calls(machine, value)
        for call in (course, wrong_votes, tale, cleared_by):
            yield call, (machine, 2, (0, 0), value)
            yield call, (machine, 2, value, ((1, ((0, 0),)),))
        yield shows_story, (machine, 2, 1, 1, value)
        yield shows_story, (machine, 3, 1, 1, value)

    def last_calls(self, machine, value):
        for call in OF_WEIGHTS:
            yield call, (machine, value, 1, 1)
            yield call, (machine, (3, 1), value, 2)
        yield shows_heavy_story, (machine, (3, 1), 1, 1, value)
        yield shows_heavy_story, (machine, (3, 1), 1, 1, ((0,), value))
        yield most_heavy, (value,)
        for call in BY_CHANCE:
            yield call, (machine, 2, value, (0,), (0,))
            yield call, (machine, 2, (1, 3), value, (0, 0))
            yield call, (machine, 2, (1, 3), (0,), value)
        yield is_clear, (machine, value)
        yield led_by, (machine, value, "a")
        yield led_by, (machine, 2, value)

    def test_they_are_not_modified(self):
        for call, values in self.calls():
            before = deepcopy(values)
            outcome(call, *values)
            self.assertEqual(repr(before), repr(values))

    def test_equal_ones_have_equal_answers(self):
        for call, values in self.calls():
            self.assertEqual(outcome(call, *values), outcome(call, *deepcopy(values)))

    def test_calls_between_change_no_answer(self):
        many = NAMED + tuple(some_machines(31, 60))
        first = [outcome(call, machine) for machine in many for call in OF_A_MACHINE]
        last = [outcome(call, machine) for machine in reversed(many) for call in reversed(OF_A_MACHINE)]
        self.assertEqual(first, last[::-1])
        for call, copies in ((story, 4), (heavy_story, (2, 1, 1, 2)), (lightest_side, (1, 2, 3))):
            first = [outcome(call, machine, copies, 1, room) for machine in many for room in (1, 2, 3)]
            last = [outcome(call, machine, copies, 1, room) for machine in reversed(many) for room in (3, 2, 1)]
            self.assertEqual(first, last[::-1])

    def test_only_true_and_false_are_shown(self):
        for machine in NAMED:
            for value in ODD + (None, ((), 1, (0,)), ((), 1, (0, 0), (0,)), ((), 1, (), ()), ((), 1, ())):
                for shows in SHOWS:
                    self.assertIs(bool, type(shows(machine, value)))
                for copies in (2, 3):
                    self.assertIs(bool, type(shows_story(machine, copies, 1, 1, value)))
                    self.assertIs(bool, type(shows_heavy_story(machine, (1,) * copies, 1, 1, value)))


class Files(unittest.TestCase):
    def trees(self):
        for path in sorted(FOLDER.glob("*.py")):
            yield path, ast.parse(path.read_text(encoding="utf-8"))

    def test_no_clock_no_randomness_no_files(self):
        for path, tree in self.trees():
            for node in ast.walk(tree):
                self.assertNotIsInstance(node, ast.Import, path)
                if isinstance(node, ast.ImportFrom):
                    self.assertEqual(0, node.level, path)
                    self.assertIn(node.module.split(".")[0], LIBRARY | {"pushedclerks"}, path)
                if isinstance(node, ast.Name):
                    self.assertNotIn(node.id, ("open", "input", "exec", "eval", "hash", "id", "print"), path)

    def test_sizes(self):
        for path, tree in self.trees():
            lines = path.read_text(encoding="utf-8").splitlines()
            self.assertLessEqual(len(lines), 399, path)
            self.assertLessEqual(max(map(len, lines), default=0), 120, path)
            self.assertTrue(all(" " <= sign <= "~" for line in lines for sign in line), path)
            for node in ast.walk(tree):
                if isinstance(node, ast.FunctionDef):
                    self.assertLessEqual(node.end_lineno - node.lineno + 1, 40, (path, node.name))

    def test_nothing_but_program_files(self):
        found = [path for path in FOLDER.iterdir() if path.suffix != ".py" and path.name != "__pycache__"]
        self.assertEqual([], found)


if __name__ == "__main__":
    unittest.main()
