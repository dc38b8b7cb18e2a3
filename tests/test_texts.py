"""Point 40: texts of machines and words, and what they tell."""

from random import Random
import re
import unittest

from pushedclerks.errors import BadLetters, BadLine, BadMachine, BadText
from pushedclerks.texts import machine_text, read_machine, read_word, word_text
from tests.small import GREATEST, LAST, NAMED, NO_NUMBERS, ODD, RING, SILENT, letters_of, some_machines, words

NO_TEXTS = tuple(value for value in ODD + NO_NUMBERS + (b"a", ["a"], ("a",), {"a": 0}) if type(value) is not str)
# Signs that Python takes for digits, or for ends of lines or blanks, and the document doesn't.
FOREIGN = ("\u0661", "\u00b2", "\uff11", "\u2460", "\r", "\t", "\v", "\f", "\x1c", "\x85", "\u2028", "\xa0", "\0")
SIGNS = "0123456789/ \n+-_.:>abcA" + "".join(FOREIGN)


def slow_machine(text):
    """The words of point 40: the machine that a text tells, or the number of the line that is wrong."""
    if type(text) is not str or text == "":
        return 0
    *lines, rest = text.split("\n")
    if rest:
        return len(lines)
    steps, told = [], []
    for number, line in enumerate(lines):
        if number >= 6 or not re.fullmatch("[0-9]/[0-9]( [0-9]/[0-9]){0,2}", line):
            return number
        steps.append(tuple(int(digit) for digit in line[0::4]))
        told.append(tuple(int(digit) for digit in line[2::4]))
        if len(line) != len(lines[0]) or any(state not in range(len(lines))[:6] for state in steps[-1]):
            return number
    return tuple(steps), tuple(told)


def changed(chance, text, signs):
    """Give a text with a few signs put in, taken out or put in the place of others, or lines doubled."""
    for _ in range(chance.randint(1, 3)):
        at = chance.randrange(len(text) + 1)
        kind = chance.randrange(5)
        if kind == 0:
            text = text[:at] + chance.choice(signs) + text[at:]
        elif kind == 1:
            text = text[:at] + text[at + 1:]
        elif kind == 2:
            text = text[:at] + chance.choice(signs) + text[at + 1:]
        else:
            lines = text.splitlines(True)
            if lines:
                at = chance.randrange(len(lines))
                lines[at:at + 1] = [lines[at]] * chance.choice((0, 2, 2))
            text = "".join(lines)
    return text


class Examples(unittest.TestCase):
    def test_them(self):
        self.assertEqual("0/0 1/0\n0/1 1/1\n", machine_text(LAST))
        self.assertEqual(RING, read_machine("1/0\n0/1\n"))
        self.assertEqual("abb", word_text(LAST, (0, 1, 1)))
        self.assertEqual((1, 0), read_word(LAST, "ba"))
        with self.assertRaises(BadLine) as caught:
            read_machine("0/0\n2/0\n")
        self.assertEqual({"line": 1}, vars(caught.exception))
        with self.assertRaises(BadText) as caught:
            read_word(LAST, "abc")
        self.assertEqual({"place": 2}, vars(caught.exception))


class Machines(unittest.TestCase):
    def wrong(self, line, *texts):
        for text in texts:
            with self.subTest(text=repr(text)[:80]), self.assertRaises(BadLine) as caught:
                read_machine(text)
            self.assertEqual({"line": line}, vars(caught.exception))

    def test_texts(self):
        self.assertEqual("0/9\n", machine_text((((0,),), ((9,),))))
        self.assertEqual("0/1 0/2 0/3\n", machine_text((((0, 0, 0),), ((1, 2, 3),))))
        self.assertEqual("0/5 1/5 1/5\n1/5 0/5 0/5\n", machine_text(SILENT))
        self.assertEqual(
            "1/0 2/9 3/1\n2/2 3/9 4/3\n3/4 4/9 5/5\n4/6 5/9 0/7\n5/8 0/9 1/0\n0/9 1/0 2/9\n", machine_text(GREATEST))

    def test_told_and_read_back(self):
        sizes = set()
        for machine in NAMED + tuple(some_machines(101, 400)):
            text = machine_text(machine)
            self.assertIs(str, type(text))
            self.assertEqual(machine, read_machine(text))
            sizes.add((len(machine[0]), letters_of(machine)))
        self.assertEqual(18, len(sizes))

    def test_kinds(self):
        machine = read_machine("0/0 1/0\n0/1 1/1\n")
        self.assertEqual(LAST, machine)
        for table in machine:
            self.assertEqual([tuple] * 3, [type(table), type(table[0]), type(table[1])])
            self.assertTrue(all(type(number) is int for row in table for number in row))

    def test_what_is_no_machine_has_no_text(self):
        for machine, part in (((), "machine"), (((), ()), "steps"), ((((0,),), ((10,),)), "answers")):
            with self.assertRaises(BadMachine) as caught:
                machine_text(machine)
            self.assertEqual({"part": part}, vars(caught.exception))

    def test_no_string(self):
        self.wrong(0, *NO_TEXTS)

    def test_no_line(self):
        self.wrong(0, "", "\n")
        self.wrong(0, "\n\n", "\n0/0\n")

    def test_a_last_line_that_is_not_ended(self):
        self.wrong(0, "0/0", "x", " ", "0/0 ", "0/0 0/0 0/0")
        self.wrong(1, "1/0\n0/1", "\n0/0", "0/0\n ", "x\n0/1", "9/9\nx")
        self.wrong(2, "\n\n0/0", "0/0\n0/0\n0/0", "4/0\n\nx")
        self.wrong(7, "0/0\n" * 7 + "0/0")
        self.wrong(6, "0/0\n" * 6 + "0/0")
        # No other sign ends a line.
        for sign in FOREIGN:
            self.wrong(0, "0/0" + sign)
            self.wrong(1, "1/0\n0/1" + sign)

    def test_more_or_fewer_letters_than_the_line_0(self):
        self.wrong(1, "0/0 0/0\n0/0\n", "0/0\n0/0 0/0\n", "0/0 0/0\n0/0 0/0 0/0\n", "0/0 0/0 0/0\n0/0 0/0\n0/0\n")
        self.wrong(2, "0/0 0/0\n0/0 0/0\n0/0\n", "0/0\n0/0\n0/0 0/0\n", "0/0 0/0\n0/0 0/0\n0/0\n0/0\n")

    def test_four_letters(self):
        self.wrong(0, "0/0 0/0 0/0 0/0\n", "0/0 0/0 0/0 0/0\n" * 2, "0/0 0/0 0/0 0/0 0/0\n")
        self.wrong(0, "0/0" + " 0/0" * 999 + "\n")
        self.wrong(1, "0/0 0/0 0/0\n0/0 0/0 0/0 0/0\n")
        self.assertEqual((((0, 0, 0),), ((0, 0, 0),)), read_machine("0/0 0/0 0/0\n"))

    def test_a_seventh_state(self):
        self.assertEqual((((0,),) * 6, ((1,),) * 6), read_machine("0/1\n" * 6))
        self.wrong(6, "0/1\n" * 7, "5/1\n" * 7, "0/1\n" * 8, "0/1\n" * 5000, "0/1\n" * 6 + "\n", "0/1\n" * 6 + "x\n")
        self.wrong(3, "0/1\n" * 3 + "0/1 0/1\n" + "0/1\n" * 3)

    def test_states_that_there_are_none_of(self):
        self.wrong(0, "1/0\n", "2/0\n0/0\n", "6/0\n" * 6, "0/0 3/0\n" + "0/0 0/0\n" * 2)
        self.wrong(1, "1/0\n2/0\n", "0/0 1/0\n0/0 2/0\n")
        self.wrong(5, "0/0\n" * 5 + "6/0\n")
        # A machine has no state 6, however many lines there are.
        self.wrong(0, "6/0\n" * 7, "9/0\n" * 10)
        self.wrong(2, "5/0\n5/0\n6/0\n" + "5/0\n" * 4)

    def test_states_of_which_the_line_comes_later(self):
        back = (((5,), (4,), (3,), (2,), (1,), (0,)), ((0,),) * 6)
        self.assertEqual(back, read_machine("5/0\n4/0\n3/0\n2/0\n1/0\n0/0\n"))
        self.assertEqual((((1,), (1,)), ((0,), (0,))), read_machine("1/0\n1/0\n"))
        self.wrong(0, "2/0\n1/0\n")
        self.wrong(0, "5/0\n4/0\n3/0\n2/0\n1/0\n")
        # There is a line for that state, though another thing is wrong in it.
        self.wrong(1, "1/0\nx\n", "1/0\n\n", "1/0\n0/0 0/0\n", "1/0\n2/0\n")
        self.wrong(0, "2/0\nx\n")
        self.wrong(6, "5/0\n" * 6 + "x\n")

    def test_answers_that_there_are_none_of(self):
        self.wrong(0, "0/10\n", "0/11 0/0\n", "0/0 0/99\n", "0/-1\n", "0/\n", "0/x\n", "0/1000000\n")
        self.wrong(1, "0/9\n0/10\n", "0/9 0/9\n0/9 0/10\n")

    def test_blanks(self):
        self.wrong(0, " 0/0\n", "0/0 \n", "0/0  0/0\n", "0 /0\n", "0/ 0\n", " \n", "  \n", "0/0\t0/0\n", "0/0,0/0\n")
        self.wrong(1, "0/0\n 0/0\n", "0/0\n0/0 \n", "0/0 0/0\n0/0  0/0\n", "0/0\n \n", "0/0 0/0\n 0/0 0/0\n")

    def test_needless_zeros(self):
        self.wrong(0, "00/0\n", "0/00\n", "0/01\n", "01/0\n0/0\n", "0/0 00/0\n", "000/0\n", "0/000\n")
        self.wrong(1, "0/0\n00/1\n", "0/0\n0/09\n")

    def test_signs_that_are_no_digits(self):
        for sign in FOREIGN + ("+", "-", "_", ".", "x", "/"):
            self.wrong(0, sign + "/0\n", "0/" + sign + "\n", "0/0" + sign + "\n", sign + "0/0\n", sign + "\n")
            self.wrong(0, "0" + sign + "0\n" if sign != "/" else "0//0\n")
            self.wrong(1, "0/0\n0/" + sign + "0\n", "0/0\n0/0 " + sign + "1/0\n", "0/0 0/0\n0/0" + sign + "0/0\n")

    def test_other_forms(self):
        self.wrong(0, "0\n", "/\n", "0/\n", "/0\n", "0/0/0\n", "0:0\n", "0/0 0\n", "0/0 /\n", "a\n", "0/0 0/0 x\n")
        self.wrong(0, "9" * 5000 + "/0\n", "0/" + "9" * 5000 + "\n", "0" * 5000 + "/0\n")

    def test_empty_lines(self):
        self.wrong(0, "\n0/0\n0/0\n")
        self.wrong(1, "0/0\n\n", "0/0\n\n0/0\n")
        self.wrong(2, "1/0\n0/0\n\n")

    def test_the_first_of_several(self):
        self.wrong(0, "x\n0/0 0/0\n", "3/0\nx\n", "0/0 0/0 0/0 0/0\n0/0\n")
        self.wrong(1, "0/0\n0/0 0/0\nx\n\n" + "0/0\n" * 6)

    def test_against_the_words(self):
        chance = Random(102)
        right = 0
        for machine in (NAMED + tuple(some_machines(103, 300))) * 12:
            text = changed(chance, machine_text(machine), SIGNS)
            slow = slow_machine(text)
            if isinstance(slow, int):
                self.wrong(slow, text)
            else:
                right += 1
                found = read_machine(text)
                self.assertEqual(slow, found, text)
                self.assertEqual(text, machine_text(found))
        self.assertGreater(right, 300)


class Words(unittest.TestCase):
    def wrong(self, place, machine, *texts):
        for text in texts:
            with self.subTest(text=repr(text)[:80]), self.assertRaises(BadText) as caught:
                read_word(machine, text)
            self.assertEqual({"place": place}, vars(caught.exception))

    def test_texts(self):
        self.assertEqual("", word_text(LAST, ()))
        self.assertEqual(["a", "b"], [word_text(LAST, (letter,)) for letter in (0, 1)])
        self.assertEqual("cabbac", word_text(SILENT, (2, 0, 1, 1, 0, 2)))
        self.assertEqual("aaaa", word_text(RING, (0,) * 4))
        self.assertEqual("abbc" * 1000, word_text(GREATEST, (0, 1, 1, 2) * 1000))

    def test_told_and_read_back(self):
        for machine in NAMED:
            for word in words(letters_of(machine), 4) + [(0,) * 4000, (letters_of(machine) - 1,) * 3999]:
                text = word_text(machine, word)
                self.assertEqual((str, len(word)), (type(text), len(text)))
                self.assertEqual((tuple, word), (type(read_word(machine, text)), read_word(machine, text)))

    def test_read(self):
        self.assertEqual((), read_word(LAST, ""))
        self.assertEqual((0, 0, 1), read_word(LAST, "aab"))
        self.assertEqual((2, 1, 0), read_word(SILENT, "cba"))
        found = read_word(SILENT, "abc")
        self.assertEqual([int] * 3, [type(letter) for letter in found])

    def test_no_words(self):
        for word in (None, True, 0, "", "ab", [], [0], {}, ((),), (2,), (-1,), (0, True), (0,) * 4001):
            with self.subTest(word=repr(word)[:50]), self.assertRaises(BadLetters) as caught:
                word_text(LAST, word)
            self.assertEqual({}, vars(caught.exception))
        with self.assertRaises(BadLetters):
            word_text(RING, (1,))
        with self.assertRaises(BadLetters):
            word_text(SILENT, (3,))

    def test_no_string(self):
        self.wrong(0, LAST, *NO_TEXTS)
        self.wrong(0, RING, None, ("a",), ["a"], True, 0)

    def test_signs_that_are_no_letters(self):
        for sign in FOREIGN + tuple("ABCcdz0129 \n-") + ("\u0430", "\uff41", "\u00aa"):
            self.wrong(0, LAST, sign, sign + "ab", sign * 2, sign * 4001)
            self.wrong(2, LAST, "ab" + sign, "ba" + sign + "abx", "aa" + sign + "a" * 4000)
            self.wrong(3999, LAST, "a" * 3999 + sign, "a" * 3999 + sign + "a", "b" * 3999 + sign * 10)
        self.wrong(1, RING, "ab", "ab" * 3, "aba")
        self.wrong(1, LAST, "ac", "bc", "acb")
        self.wrong(1, SILENT, "ad", "cd", "bC")
        self.wrong(1, LAST, "a b", "a\n", "b ", "a\nb\n")

    def test_more_than_4000_signs(self):
        self.assertEqual((0, 1) * 2000, read_word(LAST, "ab" * 2000))
        self.wrong(4000, LAST, "ab" * 2000 + "a", "ab" * 5000, "a" * 4001)
        # The signs behind those are one too many already.
        self.wrong(4000, LAST, "a" * 4000 + "x", "a" * 4000 + "\n", "a" * 4001 + "c")
        self.wrong(4000, RING, "a" * 4000 + "b", "a" * 9000)

    def test_wrong_machines_first(self):
        for machine, part in (((), "machine"), (((), ()), "steps"), ((((0,),), ((10,),)), "answers")):
            for value in (None, "x", "", (9,), ()):
                for call in (word_text, read_word):
                    with self.assertRaises(BadMachine) as caught:
                        call(machine, value)
                    self.assertEqual({"part": part}, vars(caught.exception))


if __name__ == "__main__":
    unittest.main()
