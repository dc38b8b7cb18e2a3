"""Point 45: desks, held against a slow reading of their lines."""

from random import Random
import unittest

from pushedclerks.benches import Bench
from pushedclerks.courses import course
from pushedclerks.desks import Desk
from pushedclerks.errors import BadLine, BadMachine, BadNumber, BadState, BadStep
from tests.small import (
    ASIDE, CHAIN, GREATEST, LAST, NAMED, NO_NUMBERS, ODD, RING, SILENT, letters_of, letters_read, slow_astray,
    slow_misses, slow_states, slow_vote, some_machines,
)

TOLD = ("astray", "misses", "states")
# Signs that Python takes for digits or for blanks, and the document doesn't.
FOREIGN = ("\u0661", "\u00b2", "\uff11", "\u2460", "\r", "\t", "\v", "\f", "\x1c", "\x85", "\u2028", "\xa0", "\0", "\n")


def everything(desk):
    return [desk.do(line) for line in TOLD], desk.word(), desk.pushes()


class SlowDesk:
    """What the lines of point 45 mean, worked out from all pushes and letters each time."""

    def __init__(self, machine, copies):
        self.machine, self.copies, self.events = machine, copies, []

    def do(self, line):
        if line == "back":
            self.events.pop()
            return "done"
        if line.startswith("push "):
            _, copy, state = line.split()
            self.events.append((int(copy), int(state)))
            return "done"
        if line in ("a", "b", "c"):
            self.events.append(("abc".index(line),))
            vote = slow_vote(self.machine, self.copies, self.events)
            return "no vote" if vote is None else "vote " + str(vote)
        about = self.machine, self.copies, self.events
        if line == "misses":
            return str(slow_misses(*about))
        if line == "states":
            return " ".join(str(state) for state in slow_states(*about))
        return " ".join(str(copy) for copy in slow_astray(*about)) or "none"

    def word(self):
        return letters_read(self.events)

    def pushes(self):
        """At each place the copies that were pushed, each with the last state that it was set into there."""
        found, place = {}, 0
        for event in self.events:
            if len(event) == 1:
                place += 1
            else:
                found[place, event[0]] = event[1]
        return tuple(
            (at, tuple((copy, into) for (where, copy), into in sorted(found.items()) if where == at))
            for at in sorted({where for where, _ in found}))


class Base(unittest.TestCase):
    def fails(self, error, fields, call, *values):
        with self.subTest(values=repr(values)[:80]), self.assertRaises(error) as caught:
            call(*values)
        self.assertEqual(fields, vars(caught.exception))

    def led(self, desk, *lines):
        return [desk.do(line) for line in lines]


class Examples(Base):
    def test_them(self):
        desk = Desk(LAST, 3)
        self.assertEqual(
            ["done", "done", "vote 1", "none", "1", "done", "1 1 0", "done", "vote 1"],
            self.led(desk, "push 0 1", "push 1 1", "b", "astray", "misses", "push 2 0", "states", "back", "a"))
        self.assertEqual(((1, 0), ((0, ((0, 1), (1, 1))),)), (desk.word(), desk.pushes()))
        self.fails(BadLine, {"line": 0}, desk.do, "c")


class Begun(Base):
    def test_numbers_of_copies(self):
        for copies in (1, 2, 98, 99):
            self.assertEqual((["none", "0", " ".join("0" * copies)], (), ()), everything(Desk(LAST, copies)))
        for copies in NO_NUMBERS + (0, 100):
            self.fails(BadNumber, {}, Desk, LAST, copies)

    def test_machines(self):
        for machine, part in (((), "machine"), (((), ()), "steps"), ((((0,),), ((10,),)), "answers")):
            for copies in (0, 1, None):
                self.fails(BadMachine, {"part": part}, Desk, machine, copies)

    def test_two_desks_are_two(self):
        one, other = Desk(LAST, 2), Desk(LAST, 2)
        self.led(one, "push 0 1", "a")
        self.assertEqual((["none", "0", "0 0"], (), ()), everything(other))
        self.fails(BadStep, {}, other.do, "back")
        self.led(other, "push 1 1")
        self.assertEqual((["none", "1", "0 0"], (0,), ((0, ((0, 1),)),)), everything(one))


class Lines(Base):
    def test_pushes(self):
        desk = Desk(GREATEST, 99)
        self.assertEqual(["done"] * 4, self.led(desk, "push 0 5", "push 98 1", "push 10 0", "push 9 3"))
        self.assertEqual("0 9 98", desk.do("astray"))
        self.assertEqual(((0, ((0, 5), (9, 3), (10, 0), (98, 1))),), desk.pushes())
        self.assertEqual((), desk.word())

    def test_letters_and_votes(self):
        self.assertEqual(["vote 1", "vote 9", "vote 0"], self.led(Desk(GREATEST, 1), "c", "b", "b"))
        self.assertEqual(["vote 0", "vote 1"], self.led(Desk(RING, 99), "a", "a"))
        desk = Desk(RING, 2)
        self.assertEqual(
            ["done", "no vote", "1", "done", "vote 1"], self.led(desk, "push 1 1", "a", "misses", "push 1 1", "a"))
        self.assertEqual(["none", "1", "0 0"], self.led(desk, *TOLD))

    def test_what_is_told(self):
        desk = Desk(ASIDE, 4)
        self.led(desk, "push 3 2", "push 1 1")
        self.assertEqual((["1 3", "0", "0 1 0 2"], (), ((0, ((1, 1), (3, 2))),)), everything(desk))
        for line in TOLD * 2:
            before = everything(desk)
            desk.do(line)
            self.assertEqual(before, everything(desk))
        # To tell something is nothing to take back.
        self.assertEqual(["done", "3"], self.led(desk, "back", "astray"))
        self.assertEqual(["done", "none"], self.led(desk, "back", "astray"))
        self.fails(BadStep, {}, desk.do, "back")

    def test_answers_are_strings(self):
        desk = Desk(LAST, 3)
        for line in ("push 1 1", "a", "b", "astray", "misses", "states", "back", "back", "back", "astray"):
            self.assertEqual(str, type(desk.do(line)))
        desk.do("b")
        self.assertEqual([tuple, tuple], [type(desk.word()), type(desk.pushes())])

    def test_no_strings(self):
        desk = Desk(LAST, 3)
        for value in ODD + NO_NUMBERS + (0, 1, b"a", b"back", ["a"], ("a",), ("push", 0, 1), {"a": 0}):
            if type(value) is not str:
                self.fails(BadLine, {"line": 0}, desk.do, value)

    def test_other_lines(self):
        desk = Desk(LAST, 12)
        for line in (
                "", " ", "  ", "\n", "a ", " a", "aa", "ab", "A", "B", "0", "1", "a\n", "\na", "a b", "vote",
                "done", "none", "no vote", "Back", "BACK", "back ", " back", "back\n", "back 1", "backs", "bac",
                "undo", "astray ", " astray", "Astray", "astray\n", "misses ", "Misses", "misses\n", "states ",
                "States", "state", "states\n", "word", "pushes", "push", "push ", "push 0", "push 0 ",
                "push  0", "push 0 1 ", " push 0 1", "push 0  1", "push  0 1", "push 0 1\n", "\npush 0 1",
                "push 0 1 1", "push 0\n1", "push\t0 1", "push 0,1", "Push 0 1", "PUSH 0 1", "push 00 1",
                "push 0 01", "push 01 1", "push 0 00", "push 000 1", "push 100 1", "push 0 100", "push 999 1",
                "push 0 999", "push 4000 1", "push 0 4000", "push 0 10000", "push -1 1", "push 0 -1",
                "push +0 1", "push 0 +1", "push -0 1", "push 0x1 1", "push 1_1 1", "push 0 1.0", "push a b",
                "push 0 b", "push b 0", "push 0>1", "push 0 to 1", "pushes 0 1", "push" + " 0 1" * 2,
                "push 0 1\r", "push " + "9" * 5000 + " 1", "push 0 " + "9" * 5000, "x" * 5000, "push 1 1 push",
                "0 1", "push0 1"):
            self.fails(BadLine, {"line": 0}, desk.do, line)
        for sign in FOREIGN:
            for line in (sign, "a" + sign, sign + "a", "push " + sign + " 1", "push 0 " + sign, "push 1" + sign + " 1"):
                self.fails(BadLine, {"line": 0}, desk.do, line)
            self.fails(BadLine, {"line": 0}, desk.do, "push" + sign + "0" + sign + "1")
        self.assertEqual((["none", "0", " ".join("0" * 12)], (), ()), everything(desk))

    def test_letters_of_other_machines(self):
        for machine, letters in ((RING, "bcdABC"), (LAST, "cdABC"), (SILENT, "dABC")):
            desk = Desk(machine, 2)
            for sign in letters:
                self.fails(BadLine, {"line": 0}, desk.do, sign)
            self.assertEqual(letters_of(machine), len([desk.do(sign) for sign in "abc"[:letters_of(machine)]]))
            self.assertEqual(tuple(range(letters_of(machine))), desk.word())

    def test_errors_of_the_bench(self):
        desk = Desk(LAST, 12)
        self.led(desk, "push 11 1", "b")
        before = everything(desk)
        for line in ("push 12 1", "push 99 1", "push 12 2", "push 99 99", "push 50 0"):
            self.fails(BadNumber, {}, desk.do, line)
        for line in ("push 11 2", "push 0 99", "push 0 6", "push 10 10"):
            self.fails(BadState, {}, desk.do, line)
        self.assertEqual(before, everything(desk))
        self.fails(BadNumber, {}, Desk(RING, 1).do, "push 1 0")
        self.assertEqual("done", Desk(GREATEST, 99).do("push 98 5"))
        self.fails(BadNumber, {}, Desk(GREATEST, 99).do, "push 99 5")
        self.fails(BadState, {}, Desk(GREATEST, 99).do, "push 98 6")

    def test_four_thousand_letters(self):
        desk = Desk(RING, 2)
        for place in range(4000):
            self.assertEqual(f"vote {place % 2}", desk.do("a"))
        before = everything(desk)
        self.fails(BadStep, {}, desk.do, "a")
        self.fails(BadLine, {"line": 0}, desk.do, "b")
        self.assertEqual(before, everything(desk))
        self.assertEqual((0,) * 4000, desk.word())
        # Where one is taken back, there is one to read again.
        self.assertEqual(["done", "vote 1"], self.led(desk, "back", "a"))
        self.fails(BadStep, {}, desk.do, "a")
        self.assertEqual(["done", "0"], self.led(desk, "push 0 1", "astray"))
        self.fails(BadStep, {}, desk.do, "a")
        self.assertEqual(((4000, ((0, 1),)),), desk.pushes())
        self.assertEqual(["done"] * 4001, self.led(desk, *["back"] * 4001))
        self.assertEqual((["none", "0", "0 0"], (), ()), everything(desk))
        self.fails(BadStep, {}, desk.do, "back")


class Back(Base):
    def test_nothing_to_take_back(self):
        desk = Desk(LAST, 2)
        for lines in ((), ("astray", "misses", "states"), ("push 0 1", "back"), ("a", "b", "back", "back")):
            self.led(desk, *lines)
            for _ in range(2):
                self.fails(BadStep, {}, desk.do, "back")
            self.assertEqual((["none", "0", "0 0"], (), ()), everything(desk))

    def test_pushes_and_letters(self):
        desk = Desk(CHAIN, 3)
        told = [everything(desk)]
        lines = ("push 0 3", "push 2 1", "b", "push 0 2", "push 0 2", "a", "b", "b", "push 1 0", "b")
        for line in lines:
            desk.do(line)
            told.append(everything(desk))
        for line in reversed(lines):
            self.assertEqual(told.pop(), everything(desk), line)
            self.assertEqual("done", desk.do("back"))
        self.assertEqual(told.pop(), everything(desk))
        self.fails(BadStep, {}, desk.do, "back")

    def test_misses_are_taken_back(self):
        desk = Desk(RING, 1)
        self.assertEqual(["done", "vote 1", "1"], self.led(desk, "push 0 1", "a", "misses"))
        self.assertEqual(["done", "0", "1"], self.led(desk, "back", "misses", "states"))
        self.assertEqual(["vote 1", "vote 0", "2"], self.led(desk, "a", "a", "misses"))
        self.assertEqual(["done", "1", "done", "0"], self.led(desk, "back", "misses", "back", "misses"))

    def test_other_letters_behind_it(self):
        desk = Desk(LAST, 2)
        self.led(desk, "b", "push 0 0", "a", "back", "back", "back", "a", "push 1 1", "b")
        self.assertEqual((["none", "1", "1 1"], (0, 1), ((1, ((1, 1),)),)), everything(desk))
        self.led(desk, "back", "back", "push 0 1", "push 1 1", "b", "a")
        self.assertEqual((["none", "1", "0 0"], (0, 1, 0), ((1, ((0, 1), (1, 1))),)), everything(desk))

    def test_what_raised_an_error_is_not_taken_back(self):
        desk = Desk(LAST, 2)
        desk.do("push 0 1")
        for line in ("push 2 0", "push 0 2", "c", "", "push 0 1 "):
            with self.assertRaises((BadLine, BadNumber, BadState)):
                desk.do(line)
        self.assertEqual(["done", "none"], self.led(desk, "back", "astray"))
        self.fails(BadStep, {}, desk.do, "back")


class WordAndPushes(Base):
    def test_a_copy_twice_at_one_place(self):
        desk = Desk(CHAIN, 3)
        self.led(desk, "push 1 3", "push 0 2", "push 1 2", "push 1 1")
        self.assertEqual(((0, ((0, 2), (1, 1))),), desk.pushes())
        # The one before is what stands there when the last one is taken back.
        desk.do("back")
        self.assertEqual(((0, ((0, 2), (1, 2))),), desk.pushes())
        self.led(desk, "b", "push 1 0", "push 1 0")
        self.assertEqual(((0, ((0, 2), (1, 2))), (1, ((1, 0),))), desk.pushes())
        self.led(desk, "back", "back", "back", "back")
        self.assertEqual(((0, ((0, 2), (1, 3))),), desk.pushes())

    def test_copies_ascend_and_places_rise(self):
        desk = Desk(LAST, 12)
        self.led(desk, "push 11 1", "push 2 1", "push 10 0", "push 0 1", "a", "b", "push 9 0", "push 1 1", "a")
        self.assertEqual(((0, ((0, 1), (2, 1), (10, 0), (11, 1))), (2, ((1, 1), (9, 0)))), desk.pushes())
        self.assertEqual((0, 1, 0), desk.word())

    def test_into_the_state_that_it_has(self):
        desk = Desk(LAST, 2)
        desk.do("push 1 0")
        self.assertEqual((["none", "0", "0 0"], (), ((0, ((1, 0),)),)), everything(desk))
        self.led(desk, "push 1 1", "push 1 0")
        self.assertEqual(((0, ((1, 0),)),), desk.pushes())

    def test_what_they_give_is_kept(self):
        desk = Desk(LAST, 2)
        self.led(desk, "push 0 1", "b")
        word, pushes = desk.word(), desk.pushes()
        self.led(desk, "push 1 1", "a", "back", "back", "back", "back")
        self.assertEqual(((1,), ((0, ((0, 1),)),)), (word, pushes))

    def test_a_strike_at_each_place(self):
        desk = Desk(LAST, 1)
        for place in range(4000):
            desk.do(f"push 0 {place % 2}")
            desk.do("a")
        pushes = desk.pushes()
        self.assertEqual(tuple((place, ((0, place % 2),)) for place in range(4000)), pushes)
        self.assertEqual(desk.do("misses"), str(sum(
            right != vote for right, _, vote in course(LAST, 1, desk.word(), pushes))))


class AgainstASlowReading(Base):
    def line(self, chance, machine, copies):
        kind = chance.random()
        if kind < 0.3:
            return f"push {chance.randrange(copies)} {chance.randrange(len(machine[0]))}"
        if kind < 0.65:
            return "abc"[chance.randrange(letters_of(machine))]
        return chance.choice(TOLD + ("back",) * 5)

    def test_many_sequences(self):
        chance = Random(161)
        for machine in NAMED * 6 + tuple(some_machines(162, 600)):
            copies = chance.choice((1, 2, 3, 4, 5, 12))
            desk, slow = Desk(machine, copies), SlowDesk(machine, copies)
            lines = []
            for _ in range(30):
                line = self.line(chance, machine, copies)
                lines.append(line)
                if line == "back" and not slow.events:
                    self.fails(BadStep, {}, desk.do, line)
                else:
                    self.assertEqual(slow.do(line), desk.do(line), (machine, copies, lines))
                self.assertEqual((slow.word(), slow.pushes()), (desk.word(), desk.pushes()), (machine, lines))
            self.assertEqual([slow.do(line) for line in TOLD], self.led(desk, *TOLD))
            votes = course(machine, copies, desk.word(), desk.pushes())
            self.assertEqual(desk.do("misses"), str(sum(right != vote for right, _, vote in votes)))

    def test_wrong_lines_change_nothing(self):
        chance = Random(163)
        for machine in NAMED * 3 + tuple(some_machines(164, 200)):
            copies = chance.choice((1, 2, 3, 12))
            desk, slow = Desk(machine, copies), SlowDesk(machine, copies)
            none = (f"push {copies} 0", f"push 0 {len(machine[0])}", f"push {copies} {len(machine[0])}")
            wrong = (None, True, "", "a ", "d", "A", "push 0", "push 00 0") + none
            for _ in range(15):
                line = self.line(chance, machine, copies)
                before = everything(desk)
                with self.assertRaises((BadLine, BadNumber, BadState)):
                    desk.do(chance.choice(wrong))
                self.assertEqual(before, everything(desk))
                if line != "back" or slow.events:
                    self.assertEqual(slow.do(line), desk.do(line))
            self.assertEqual((slow.word(), slow.pushes()), (desk.word(), desk.pushes()))

    def test_the_votes_are_those_of_a_course_and_of_a_bench(self):
        chance = Random(165)
        for machine in NAMED * 3 + tuple(some_machines(166, 300)):
            copies = chance.choice((1, 2, 3, 5))
            desk, said = Desk(machine, copies), []
            for _ in range(25):
                line = self.line(chance, machine, copies)
                if line == "back":
                    if not desk.word() and not desk.pushes():
                        continue
                    many = len(desk.word())
                    desk.do("back")
                    del said[len(desk.word()):many]
                elif len(line) == 1:
                    said.append(desk.do(line))
                else:
                    desk.do(line)
            told = course(machine, copies, desk.word(), desk.pushes())
            self.assertEqual(["no vote" if vote is None else f"vote {vote}" for _, _, vote in told], said)
            bench, struck = Bench(machine, copies), dict(desk.pushes())
            for place in range(len(desk.word()) + 1):
                for copy, state in struck.get(place, ()):
                    bench.push(copy, state)
                if place < len(desk.word()):
                    bench.read(desk.word()[place])
            self.assertEqual(" ".join(map(str, bench.states)), desk.do("states"))
            self.assertEqual(" ".join(map(str, bench.astray)) or "none", desk.do("astray"))
            self.assertEqual(str(bench.misses), desk.do("misses"))


if __name__ == "__main__":
    unittest.main()
