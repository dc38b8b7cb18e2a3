"""Points 5 and 6: how many copies are enough, held against the document's words."""

import unittest

from pushedclerks.clerks import are_enough, copies_needed, fewest_of_all, least_room, most_pushed
from pushedclerks.errors import BadMachine, BadNumber
from pushedclerks.lates import late
from pushedclerks.machines import least_machine
from tests.small import (
    APART, ASIDE, CHAIN, GREATEST, LAST, LONGEST, NAMED, NO_NUMBERS, ONLY_BY_ASIDE, RING, SILENT, all_answers,
    all_machines, all_strikes, letters_of, slow_course, slow_enough, small_machines, some_machines, words,
)

ENDLESS = (RING, APART, GREATEST)
NO_LATE_WORD = (SILENT, (((0,),), ((9,),)), (((1,), (0,)), ((4,), (4,))))
# The states 3 and 4 answer as 1 and 2 do, and state 5 can't come.
DOUBLED = (
    ((0, 1), (0, 2), (0, 4), (0, 4), (0, 2), (5, 5)),
    ((0, 0), (0, 0), (0, 1), (0, 0), (0, 1), (7, 7)),
)
ROOMS = range(1, 61)
ALL_PUSHED = range(10)
ALL_COPIES = range(1, 100)


class Examples(unittest.TestCase):
    def test_them(self):
        self.assertEqual([[7, 5, 3], None, False, 2, 2, 5], [
            [copies_needed(CHAIN, 1, room) for room in [1, 2, 3]], copies_needed(RING, 1, 60),
            are_enough(CHAIN, 4, 1, 2), most_pushed(CHAIN, 9, 2), least_room(CHAIN, 5, 1), fewest_of_all(CHAIN, 2, 3),
        ])
        with self.assertRaises(BadNumber) as caught:
            copies_needed(CHAIN, 10, 1)
        self.assertEqual({}, vars(caught.exception))


class Wrong(unittest.TestCase):
    def all_wrong(self, low, high, call):
        for number in NO_NUMBERS + (low - 1, high + 1):
            with self.subTest(number=number), self.assertRaises(BadNumber) as caught:
                call(number)
            self.assertEqual({}, vars(caught.exception))
        call(low)
        call(high)

    def test_numbers_of_pushed_ones(self):
        for machine in (LAST, RING, SILENT):
            for call in (copies_needed, fewest_of_all):
                self.all_wrong(0, 9, lambda number: call(machine, number, 1))
            self.all_wrong(0, 9, lambda number: are_enough(machine, 3, number, 1))
            self.all_wrong(0, 9, lambda number: least_room(machine, 3, number))

    def test_rooms(self):
        for machine in (LAST, RING, SILENT):
            for pushed in (0, 1, 9):
                for call in (copies_needed, fewest_of_all):
                    self.all_wrong(1, 60, lambda number: call(machine, pushed, number))
                self.all_wrong(1, 60, lambda number: are_enough(machine, 3, pushed, number))
            self.all_wrong(1, 60, lambda number: most_pushed(machine, 3, number))

    def test_numbers_of_copies(self):
        for machine in (LAST, RING, SILENT):
            self.all_wrong(1, 99, lambda number: are_enough(machine, number, 0, 1))
            self.all_wrong(1, 99, lambda number: are_enough(machine, number, 9, 60))
            self.all_wrong(1, 99, lambda number: most_pushed(machine, number, 1))
            self.all_wrong(1, 99, lambda number: least_room(machine, number, 0))

    def test_machines(self):
        for wrong, part in (((), "machine"), (((), ()), "steps"), ((((0,),), ((10,),)), "answers")):
            for call in (copies_needed, most_pushed, least_room, fewest_of_all):
                with self.assertRaises(BadMachine) as caught:
                    call(wrong, 0, 0)
                self.assertEqual(part, caught.exception.part)
            with self.assertRaises(BadMachine) as caught:
                are_enough(wrong, 0, 10, 0)
            self.assertEqual(part, caught.exception.part)


class CopiesNeeded(unittest.TestCase):
    def test_nobody_pushed(self):
        for machine in NAMED + NO_LATE_WORD:
            self.assertEqual({1}, {copies_needed(machine, 0, room) for room in ROOMS})

    def test_without_a_late_word(self):
        for machine in NO_LATE_WORD:
            self.assertEqual({1}, {copies_needed(machine, pushed, room) for pushed in ALL_PUSHED for room in ROOMS})

    def test_without_end(self):
        for machine in ENDLESS:
            for pushed in range(1, 10):
                self.assertEqual({None}, {copies_needed(machine, pushed, room) for room in ROOMS})

    def test_with_a_greatest_length(self):
        self.assertEqual([11, 7, 5, 5, 3, 3, 3], [copies_needed(LONGEST, 1, room) for room in range(1, 8)])
        self.assertEqual([91, 55, 37, 37, 19, 19, 19], [copies_needed(LONGEST, 9, room) for room in range(1, 8)])
        self.assertEqual([3, 19], [copies_needed(LONGEST, pushed, 60) for pushed in (1, 9)])
        self.assertEqual([1 + 2 * pushed for pushed in ALL_PUSHED], [copies_needed(LAST, p, 1) for p in ALL_PUSHED])
        self.assertEqual([1 + 4 * pushed for pushed in ALL_PUSHED], [copies_needed(CHAIN, p, 2) for p in ALL_PUSHED])
        self.assertEqual([5, 3, 3], [copies_needed(ONLY_BY_ASIDE, 1, room) for room in (1, 2, 3)])
        self.assertEqual(3, copies_needed(ASIDE, 1, 1))

    def test_late_divided_by_room_rounded_up(self):
        for machine in (LAST, ASIDE, ONLY_BY_ASIDE, CHAIN, LONGEST) + tuple(some_machines(51, 60)):
            length = late(machine)
            if length is None:
                continue
            for room in ROOMS:
                # The least k with which k times the room is length or more.
                k = min(k for k in range(6) if k * room >= length)
                for pushed in ALL_PUSHED:
                    self.assertEqual(2 * pushed * k + 1, copies_needed(machine, pushed, room))


class AreEnough(unittest.TestCase):
    def test_as_copies_needed_says(self):
        for machine in (LAST, RING, CHAIN, SILENT, ASIDE, LONGEST):
            for pushed in (0, 1, 2, 5, 9):
                for room in (1, 2, 3, 4, 5, 60):
                    needed = copies_needed(machine, pushed, room)
                    for copies in ALL_COPIES:
                        right = needed is not None and copies >= needed
                        self.assertIs(right, are_enough(machine, copies, pushed, room))

    def test_1_and_99_copies(self):
        self.assertIs(True, are_enough(LAST, 99, 9, 1))
        self.assertIs(True, are_enough(LONGEST, 99, 9, 1))
        self.assertIs(False, are_enough(LONGEST, 90, 9, 1))
        self.assertIs(True, are_enough(LONGEST, 91, 9, 1))
        self.assertIs(False, are_enough(RING, 99, 1, 60))
        self.assertIs(True, are_enough(RING, 1, 0, 1))
        self.assertIs(True, are_enough(SILENT, 1, 9, 1))
        self.assertIs(False, are_enough(LAST, 1, 1, 60))
        self.assertIs(False, are_enough(LAST, 2, 1, 60))
        self.assertIs(True, are_enough(LAST, 3, 1, 60))


class AgainstTheWords(unittest.TestCase):
    """All words and all strikes, of any length, but for few copies."""

    def machines(self):
        return list(NAMED[:-1]) + [ONLY_BY_ASIDE] + small_machines()[::5] + some_machines(52, 40, 4, 2)

    def test_copies(self):
        for machine in self.machines():
            for pushed, room in ((0, 1), (1, 1), (1, 2), (1, 3), (2, 1), (2, 2), (3, 1), (9, 4)):
                enough = [copies for copies in range(1, 6) if slow_enough(machine, copies, pushed, room)]
                found = [copies for copies in range(1, 6) if are_enough(machine, copies, pushed, room)]
                self.assertEqual(enough, found, (machine, pushed, room))
                needed = copies_needed(machine, pushed, room)
                if needed is None or needed > 5:
                    self.assertEqual([], enough, (machine, pushed, room))
                else:
                    self.assertEqual(list(range(needed, 6)), enough, (machine, pushed, room))

    def test_all_small_machines(self):
        for machine in small_machines():
            for room in (1, 2):
                needed = copies_needed(machine, 1, room)
                for copies in (1, 2, 3):
                    right = needed is not None and copies >= needed
                    self.assertIs(right, slow_enough(machine, copies, 1, room), (machine, copies, room))

    def test_more_copies(self):
        for machine, pushed, room, needed in (
                (CHAIN, 1, 1, 7), (CHAIN, 1, 2, 5), (CHAIN, 2, 3, 5), (CHAIN, 2, 2, 9), (LAST, 3, 2, 7),
                (ONLY_BY_ASIDE, 1, 1, 5), (ONLY_BY_ASIDE, 2, 2, 5), (ASIDE, 4, 1, 9), (LONGEST, 1, 3, 5),
                (LONGEST, 1, 5, 3), (LAST, 1, 60, 3)):
            self.assertEqual(needed, copies_needed(machine, pushed, room))
            self.assertIs(False, slow_enough(machine, needed - 1, pushed, room), machine)
            self.assertIs(True, slow_enough(machine, needed, pushed, room), machine)

    def test_no_number_of_copies(self):
        for machine in (RING, APART):
            for copies in (1, 4, 7, 10):
                self.assertIs(False, slow_enough(machine, copies, 1, 3))
        self.assertIs(False, slow_enough(RING, 3, 1, 60))

    def test_words_and_strikes_one_by_one(self):
        for machine, copies, pushed, room, longest in (
                (LAST, 1, 1, 1, 2), (LAST, 2, 1, 1, 3), (LAST, 3, 1, 1, 2), (LAST, 2, 2, 1, 2), (LAST, 3, 1, 2, 3),
                (RING, 1, 1, 2, 4), (RING, 2, 1, 2, 4), (RING, 3, 1, 1, 3), (RING, 3, 0, 1, 3),
                (ASIDE, 2, 1, 1, 3), (ASIDE, 3, 1, 1, 3), (CHAIN, 2, 1, 3, 4), (CHAIN, 3, 1, 3, 4),
                (SILENT, 1, 1, 1, 3), (SILENT, 2, 2, 2, 2)):
            right = all(
                2 * given.count(answer) > copies
                for word in words(letters_of(machine), longest)
                for strikes in all_strikes(machine, copies, pushed, room, len(word))
                for answer, given, _ in slow_course(machine, copies, word, strikes))
            self.assertIs(right, are_enough(machine, copies, pushed, room), (machine, copies, pushed, room))


class MostPushed(unittest.TestCase):
    def test_values(self):
        self.assertEqual([0, 0, 1, 1, 2, 2, 3], [most_pushed(LAST, copies, 1) for copies in range(1, 8)])
        self.assertEqual([0] * 6 + [1] * 6 + [2], [most_pushed(CHAIN, copies, 1) for copies in range(1, 14)])
        self.assertEqual([9, 16, 24, 24, 49, 49], [most_pushed(LONGEST, 99, room) for room in range(1, 7)])
        self.assertEqual(0, most_pushed(LONGEST, 1, 60))

    def test_however_great(self):
        self.assertEqual([49, 48, 10], [most_pushed(LAST, copies, 60) for copies in (99, 98, 21)])
        self.assertEqual([9, 9, 10], [most_pushed(LAST, copies, 1) for copies in (19, 20, 21)])

    def test_any_number(self):
        for machine in NO_LATE_WORD:
            self.assertEqual({None}, {most_pushed(machine, copies, room) for copies in ALL_COPIES for room in (1, 60)})

    def test_none_but_nobody(self):
        for machine in ENDLESS:
            self.assertEqual({0}, {most_pushed(machine, copies, room) for copies in ALL_COPIES for room in (1, 60)})

    def test_against_are_enough(self):
        for machine in NAMED + NO_LATE_WORD + (LONGEST, ONLY_BY_ASIDE):
            for copies in range(1, 100, 7):
                for room in (1, 2, 3, 4, 5, 60):
                    enough = [pushed for pushed in ALL_PUSHED if are_enough(machine, copies, pushed, room)]
                    most = most_pushed(machine, copies, room)
                    self.assertEqual(list(range(10 if most is None else min(most, 9) + 1)), enough)

    def test_against_the_words(self):
        machines = (LAST, RING, CHAIN, SILENT, ASIDE, APART, ONLY_BY_ASIDE, DOUBLED)
        for machine in machines + tuple(small_machines()[::17] + some_machines(53, 20, 3, 2)):
            for copies, room in ((1, 1), (2, 1), (3, 1), (3, 2), (4, 3), (5, 1), (5, 2)):
                # More cannot be pushed than there are copies.
                enough = [pushed for pushed in range(copies + 1) if slow_enough(machine, copies, pushed, room)]
                most = most_pushed(machine, copies, room)
                self.assertEqual(list(range(copies + 1 if most is None else most + 1)), enough, machine)


class LeastRoom(unittest.TestCase):
    def test_values(self):
        self.assertEqual([None, None, 3, 3, 2, 2, 1, 1], [least_room(CHAIN, copies, 1) for copies in range(1, 9)])
        found = [least_room(LONGEST, copies, 2) for copies in (1, 4, 5, 8, 9, 12, 13, 20, 21, 99)]
        self.assertEqual([None, None, 5, 5, 3, 3, 2, 2, 1, 1], found)
        self.assertEqual([None, 1], [least_room(LAST, copies, 9) for copies in (18, 19)])

    def test_nobody_pushed_and_nobody_late(self):
        for machine in NAMED:
            self.assertEqual({1}, {least_room(machine, copies, 0) for copies in ALL_COPIES})
        for machine in NO_LATE_WORD:
            self.assertEqual({1}, {least_room(machine, copies, 9) for copies in ALL_COPIES})

    def test_without_any(self):
        for machine in ENDLESS:
            self.assertEqual({None}, {least_room(machine, copies, 1) for copies in (1, 2, 3, 50, 98, 99)})

    def test_against_are_enough(self):
        for machine in (LAST, RING, SILENT, ASIDE, ONLY_BY_ASIDE, CHAIN, LONGEST):
            for pushed in (0, 1, 2, 9):
                for copies in (1, 2, 3, 5, 7, 11, 21, 37, 99):
                    rooms = [room for room in ROOMS if are_enough(machine, copies, pushed, room)]
                    self.assertEqual(rooms[0] if rooms else None, least_room(machine, copies, pushed))

    def test_against_the_words(self):
        machines = (LAST, RING, CHAIN, SILENT, ASIDE, APART, ONLY_BY_ASIDE, DOUBLED)
        for machine in machines + tuple(small_machines()[::17] + some_machines(54, 20, 4, 2)):
            for copies, pushed in ((1, 0), (1, 1), (2, 1), (3, 1), (4, 1), (5, 1), (4, 2), (5, 2)):
                rooms = [room for room in (1, 2, 3, 4, 60) if slow_enough(machine, copies, pushed, room)]
                self.assertEqual(rooms[0] if rooms else None, least_room(machine, copies, pushed), machine)


class FewestOfAll(unittest.TestCase):
    def test_states_that_cannot_come(self):
        self.assertEqual([3, 1], [copies_needed(ASIDE, 1, 1), fewest_of_all(ASIDE, 1, 1)])
        self.assertEqual([None, 1], [copies_needed(APART, 1, 1), fewest_of_all(APART, 1, 1)])
        self.assertEqual([5, 1], [copies_needed(ONLY_BY_ASIDE, 1, 1), fewest_of_all(ONLY_BY_ASIDE, 1, 1)])
        # The states 0 and 1 answer the letter before, and state 2 goes to itself for ever.
        aside = (((0, 1), (0, 1), (2, 2)), ((0, 0), (1, 1), (0, 1)))
        self.assertEqual([None, 3], [copies_needed(aside, 1, 1), fewest_of_all(aside, 1, 1)])

    def test_states_alike(self):
        self.assertEqual((((0, 1), (0, 2), (0, 2)), ((0, 0), (0, 0), (0, 1))), least_machine(DOUBLED))
        self.assertIsNone(copies_needed(DOUBLED, 2, 1))
        self.assertEqual([9, 5, 5], [fewest_of_all(DOUBLED, 2, room) for room in (1, 2, 60)])
        twice = (((2, 1), (0, 3), (0, 1), (2, 3)), ((0, 0), (1, 1), (0, 0), (1, 1)))
        self.assertEqual(LAST, least_machine(twice))
        self.assertEqual([3, 3], [copies_needed(twice, 1, 1), fewest_of_all(twice, 1, 1)])

    def test_nobody_pushed_and_without_end(self):
        for machine in NAMED:
            self.assertEqual({1}, {fewest_of_all(machine, 0, room) for room in ROOMS})
        for machine in (RING, GREATEST):
            for pushed in (1, 9):
                self.assertEqual({None}, {fewest_of_all(machine, pushed, room) for room in ROOMS})

    def test_copies_needed_of_the_least_machine(self):
        for machine in NAMED + (DOUBLED, LONGEST, ONLY_BY_ASIDE) + tuple(some_machines(55, 300)):
            for pushed, room in ((0, 1), (1, 1), (1, 2), (9, 1), (3, 60)):
                found = fewest_of_all(machine, pushed, room)
                self.assertEqual(copies_needed(least_machine(machine), pushed, room), found)

    def test_least_of_all_machines_that_answer_alike(self):
        for letters, most_states in ((1, 3), (2, 2)):
            tests = words(letters, 2 * most_states)
            families = {}
            for states in range(1, most_states + 1):
                for machine in all_machines(states, letters, 2):
                    told = tuple(all_answers(machine, 0, word) for word in tests)
                    families.setdefault(told, []).append(machine)
            self.assertGreater(len(families), 10)
            for family in families.values():
                needed = {copies for copies in range(1, 6) if any(slow_enough(m, copies, 1, 1) for m in family)}
                self.assertEqual({min(needed, default=None)}, {fewest_of_all(m, 1, 1) for m in family}, family)


if __name__ == "__main__":
    unittest.main()
