"""Point 40: texts of strikes, and what they tell."""

from random import Random
import re
import unittest

from pushedclerks.errors import BadLine, BadMachine, BadNumber, BadStrikes
from pushedclerks.texts import read_strikes, strikes_text
from tests.small import CHAIN, GREATEST, LAST, NAMED, NO_NUMBERS, RING, all_strikes, some_machines, some_strikes
from tests.test_texts import FOREIGN, NO_TEXTS, SIGNS, changed

BOTH = (strikes_text, read_strikes)
NUMBER = "(0|[1-9][0-9]*)"


def slow_strikes(machine, copies, text):
    """The words of point 40: the strikes that a text tells, or the number of the line that is wrong."""
    if type(text) is not str:
        return 0
    *lines, rest = text.split("\n")
    if rest:
        return len(lines)
    found = []
    for number, line in enumerate(lines):
        if number >= 4000 or not re.fullmatch(f"{NUMBER}: {NUMBER}>{NUMBER}( {NUMBER}>{NUMBER})*", line):
            return number
        place, *numbers = [int(digits) for digits in re.findall("[0-9]+", line)]
        pushed, states = numbers[0::2], numbers[1::2]
        if place > 4000 or (found and place <= found[-1][0]) or sorted(set(pushed)) != pushed:
            return number
        if max(pushed) >= copies or max(states) >= len(machine[0]):
            return number
        found.append((place, tuple(zip(pushed, states))))
    return tuple(found)


class Base(unittest.TestCase):
    def wrong(self, line, *texts, machine=LAST, copies=3):
        for text in texts:
            with self.subTest(text=repr(text)[:80]), self.assertRaises(BadLine) as caught:
                read_strikes(machine, copies, text)
            self.assertEqual({"line": line}, vars(caught.exception))

    def told(self, text, strikes, machine=LAST, copies=3):
        self.assertEqual((str, text), (type(strikes_text(machine, copies, strikes)), text))
        self.assertEqual(text, strikes_text(machine, copies, strikes))
        found = read_strikes(machine, copies, text)
        self.assertEqual((tuple, strikes), (type(found), found))


class Right(Base):
    def test_examples(self):
        self.assertEqual("4: 1>0 2>1\n", strikes_text(RING, 3, ((4, ((1, 0), (2, 1))),)))
        self.assertEqual(((0, ((0, 1),)),), read_strikes(RING, 3, "0: 0>1\n"))

    def test_none_one_and_many(self):
        for copies in (1, 3, 99):
            self.told("", (), copies=copies)
        self.told("0: 0>0\n", ((0, ((0, 0),)),), (((0,),), ((0,),)), 1)
        self.told("0: 0>1 1>0 2>1\n1: 2>0\n", ((0, ((0, 1), (1, 0), (2, 1))), (1, ((2, 0),))))
        self.told("9: 9>5\n10: 10>5 98>0\n100: 0>0\n4000: 98>5\n", (
            (9, ((9, 5),)), (10, ((10, 5), (98, 0))), (100, ((0, 0),)), (4000, ((98, 5),))), GREATEST, 99)

    def test_99_copies_and_4000_strikes(self):
        all_of_them = tuple((copy, copy % 6) for copy in range(99))
        line = " ".join(f"{copy}>{copy % 6}" for copy in range(99))
        self.told(f"7: {line}\n", ((7, all_of_them),), GREATEST, 99)
        many = tuple((place, ((place % 3, 1),)) for place in range(1, 4001))
        self.told("".join(f"{place}: {place % 3}>1\n" for place in range(1, 4001)), many)

    def test_kinds(self):
        ((place, pushes),) = found = read_strikes(LAST, 3, "4: 0>1 2>0\n")
        self.assertEqual([tuple, tuple, int, tuple, tuple], [
            type(value) for value in (found, found[0], place, pushes, pushes[1])])
        self.assertEqual({int}, {type(number) for push in pushes for number in push})

    def test_told_and_read_back(self):
        for strikes in all_strikes(LAST, 2, 2, 1, 2):
            self.assertEqual(strikes, read_strikes(LAST, 2, strikes_text(LAST, 2, strikes)))
        chance = Random(111)
        for machine in NAMED + tuple(some_machines(112, 100)):
            for copies in (1, 2, 11, 99):
                strikes = tuple(
                    (place * 37, pushes) for place, pushes in some_strikes(chance, machine, copies, 20))
                text = strikes_text(machine, copies, strikes)
                self.assertEqual(len(strikes), text.count("\n"))
                self.assertEqual(strikes, read_strikes(machine, copies, text))


class Wrong(Base):
    def test_no_string(self):
        self.wrong(0, *NO_TEXTS)

    def test_a_last_line_that_is_not_ended(self):
        self.wrong(0, "0: 0>1", "x", " ", "0", "0: ")
        self.wrong(1, "0: 0>1\n1: 0>1", "x\n1: 0>1", "0: 0>1\n ", "\nx")
        self.wrong(3, "0: 0>1\n" * 3 + "5: 0>0")
        self.wrong(4001, "".join(f"{place}: 0>1\n" for place in range(4001)) + "x")
        for sign in FOREIGN:
            self.wrong(0, "0: 0>1" + sign)

    def test_empty_lines(self):
        self.wrong(0, "\n", "\n\n", "\n0: 0>1\n")
        self.wrong(1, "0: 0>1\n\n", "0: 0>1\n\n1: 0>1\n")

    def test_forms(self):
        self.wrong(0, "0\n", "0:\n", "0: \n", ": 0>1\n", "0:0>1\n", "0 0>1\n", "0 : 0>1\n", "0: 0\n", "0: 0>\n")
        self.wrong(0, "0: >1\n", "0: >\n", "0: 0>1>1\n", "0: 0>1: 1>1\n", "0: 1: 0>1\n", "x: 0>1\n", "0: x>1\n")
        self.wrong(0, "0: 0>x\n", "0: 0/1\n", "0: 0>1,1>1\n", "0: 0>1, 1>1\n", "0: 0>1x\n", "0; 0>1\n", "0>1\n")
        self.wrong(1, "0: 0>1\n1\n", "0: 0>1\n1: \n", "0: 0>1\n1: 0\n", "0: 0>1\n1: 0>1:\n")

    def test_blanks(self):
        self.wrong(0, " 0: 0>1\n", "0: 0>1 \n", "0:  0>1\n", "0: 0>1  1>1\n", "0: 0 >1\n", "0: 0> 1\n", " \n")
        self.wrong(1, "0: 0>1\n 1: 0>1\n", "0: 0>1\n1: 0>1 \n", "0: 0>1\n1: 0>0  1>1\n", "0: 0>1\n \n")

    def test_needless_zeros(self):
        self.wrong(0, "00: 0>1\n", "01: 0>1\n", "0: 00>1\n", "0: 01>1\n", "0: 0>01\n", "0: 0>00\n", "0001: 0>1\n")
        self.wrong(0, "04000: 0>1\n", "0: 0>1 02>1\n", "0" * 5000 + ": 0>1\n")
        self.wrong(1, "0: 0>1\n01: 0>1\n", "0: 0>1\n1: 0>1 1>00\n")
        self.assertEqual(((10, ((0, 0),)),), read_strikes(LAST, 3, "10: 0>0\n"))

    def test_signs_that_are_no_digits(self):
        for sign in FOREIGN + ("+", "-", "_", ".", "x", " "):
            self.wrong(0, sign + "0: 0>1\n", "0" + sign + ": 0>1\n", "0: " + sign + "0>1\n", "0: 0" + sign + ">1\n")
            self.wrong(0, "0: 0>" + sign + "1\n", "0: 0>1" + sign + "\n", sign + ": 0>1\n", "0: " + sign + ">1\n")
            self.wrong(1, "0: 0>1\n" + sign + "1: 0>1\n", "0: 0>1\n1: 0>1" + sign + "\n")

    def test_places(self):
        self.wrong(0, "4001: 0>1\n", "9999: 0>1\n", "40000: 0>1\n", "9" * 5000 + ": 0>1\n")
        self.wrong(1, "4000: 0>1\n4001: 0>1\n", "0: 0>1\n0: 0>1\n", "5: 0>1\n4: 0>1\n", "10: 0>1\n9: 0>1\n")
        self.wrong(2, "0: 0>1\n9: 0>1\n9: 0>1\n10: 0>1\n", "0: 0>1\n9: 0>1\n8: 0>1\n10: 0>1\n")
        self.wrong(1, "4000: 0>1\n4000: 0>1\n")

    def test_copies(self):
        self.wrong(0, "0: 3>1\n", "0: 0>1 3>1\n", "0: 99>1\n", "0: 10>1\n", "0: " + "9" * 5000 + ">1\n")
        self.wrong(0, "0: 1>1 0>1\n", "0: 1>1 1>1\n", "0: 1>1 1>0\n", "0: 0>1 2>1 1>1\n", "0: 0>1 1>1 2>1 0>1\n")
        self.wrong(1, "0: 0>1\n1: 3>1\n", "0: 0>1\n1: 2>1 1>1\n", "0: 0>1\n1: 2>1 2>1\n")
        for copies in (1, 2, 10, 98, 99):
            self.wrong(0, f"0: {copies}>0\n", copies=copies)
            self.told(f"0: {copies - 1}>0\n", ((0, ((copies - 1, 0),)),), copies=copies)

    def test_states(self):
        self.wrong(0, "0: 0>2\n", "0: 0>1 1>2\n", "0: 0>6\n", "0: 0>10\n", "0: 0>" + "1" * 5000 + "\n")
        self.wrong(1, "0: 0>1\n1: 0>2\n")
        for machine in (RING, CHAIN, GREATEST):
            states = len(machine[0])
            self.wrong(0, f"0: 0>{states}\n", machine=machine)
            self.told(f"0: 0>{states - 1}\n", ((0, ((0, states - 1),)),), machine)

    def test_too_many(self):
        lines = [f"{place}: 1>0\n" for place in range(4001)]
        self.assertEqual(4000, len(read_strikes(LAST, 3, "".join(lines[:4000]))))
        self.wrong(4000, "".join(lines), "".join(lines[:4000]) + "x\n", "".join(lines) + "\n\n")
        self.wrong(4000, "".join(lines[:4000]) + "\n", "".join(lines[:4000]) + "4000: 0>1\n" * 3)
        # A wrong line ahead of it is the first.
        self.wrong(3999, "".join(lines[:3999]) + "1: 1>0\n" + lines[4000])
        self.wrong(17, "".join(lines[:17] + ["\n"] + lines[18:]))

    def test_the_first_of_several(self):
        self.wrong(0, "x\n\n", "5: 3>1\n4: 0>1\n")
        self.wrong(1, "5: 2>1\n4: 0>1\n3: 0>1\n", "5: 2>1\n\nx\n")

    def test_against_the_words(self):
        chance = Random(113)
        right = 0
        for machine in (NAMED + tuple(some_machines(114, 200))) * 12:
            copies = chance.choice((1, 2, 3, 11, 12))
            strikes = some_strikes(chance, machine, copies, chance.choice((1, 2, 4, 12)))
            text = changed(chance, strikes_text(machine, copies, strikes), SIGNS)
            slow = slow_strikes(machine, copies, text)
            if isinstance(slow, int):
                self.wrong(slow, text, machine=machine, copies=copies)
            else:
                right += 1
                found = read_strikes(machine, copies, text)
                self.assertEqual(slow, found, text)
                self.assertEqual(text, strikes_text(machine, copies, found))
        self.assertGreater(right, 200)


class OtherArguments(Base):
    def fails(self, error, fields, call, *values):
        with self.subTest(values=repr(values)[:80]), self.assertRaises(error) as caught:
            call(*values)
        self.assertEqual(fields, vars(caught.exception))

    def test_machines(self):
        for machine, part in (((), "machine"), (((), ()), "steps"), ((((0,),), ((10,),)), "answers")):
            for call in BOTH:
                self.fails(BadMachine, {"part": part}, call, machine, 0, None)

    def test_numbers_of_copies(self):
        for copies in NO_NUMBERS + (0, 100):
            for call in BOTH:
                for value in ((), "", None, "x", 5):
                    self.fails(BadNumber, {}, call, LAST, copies, value)

    def test_strikes(self):
        for value in (None, True, 0, "", "0: 0>1\n", [], {}, ((),) * 4001):
            self.fails(BadStrikes, {"index": None}, strikes_text, LAST, 3, value)
        for value in (0, True, (), (0,), (0, ()), (0, ((0, 2),)), (0, ((3, 0),)), (4001, ((0, 0),)), [0, ((0, 0),)]):
            self.fails(BadStrikes, {"index": 0}, strikes_text, LAST, 3, (value,))
            self.fails(BadStrikes, {"index": 1}, strikes_text, LAST, 3, ((0, ((0, 1),)), value))
        self.fails(BadStrikes, {"index": 1}, strikes_text, LAST, 3, ((5, ((0, 1),)), (5, ((0, 1),))))


if __name__ == "__main__":
    unittest.main()
