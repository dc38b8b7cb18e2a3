"""Texts of machines, words and strikes, and what they tell."""

from pushedclerks.checks import (
    LONGEST_WORD, MOST_ANSWER, MOST_LETTERS, MOST_STATES, MOST_STRIKES, check_copies, check_machine, check_strikes,
    check_word, is_letter, is_row, wrong_strike,
)
from pushedclerks.errors import BadLine, BadText

SIGNS = "abc"
LETTERS = {"a": 0, "b": 1, "c": 2}
DIGITS = "0123456789"
# No number that a text tells has more digits than the greatest place.
MOST_DIGITS = 4


def lines_text(lines):
    """Give the text of lines, a newline at the end of each."""
    return "".join([line + "\n" for line in lines])


def machine_text(machine):
    """Give the text of a machine: a line for each state, of the next state and the answer for each letter."""
    check_machine(machine)
    lines = []
    for after, told in zip(machine[0], machine[1]):
        lines.append(" ".join([f"{state}/{answer}" for state, answer in zip(after, told)]))
    return lines_text(lines)


def word_text(machine, word):
    """Give the text of a word: a sign for each letter."""
    check_machine(machine)
    check_word(machine, word)
    return "".join([SIGNS[letter] for letter in word])


def strikes_text(machine, copies, strikes):
    """Give the text of strikes: a line for each, of its place and of the copy and the state of each push."""
    check_machine(machine)
    check_copies(copies)
    check_strikes(machine, copies, strikes)
    lines = []
    for place, pushes in strikes:
        told = " ".join([f"{copy}>{state}" for copy, state in pushes])
        lines.append(f"{place}: {told}")
    return lines_text(lines)


def lines_told(text):
    """List the lines of a text, without their newlines."""
    if not isinstance(text, str):
        raise BadLine(0)
    lines = text.split("\n")
    # Behind the newline of the last line there is nothing.
    if lines[-1] != "":
        raise BadLine(len(lines) - 1)
    return lines[:-1]


def number_told(text):
    """Give the number that a text tells without needless zeros, None if it tells none, or one too great for all."""
    if not 1 <= len(text) <= MOST_DIGITS or not all([sign in DIGITS for sign in text]):
        return None
    if text[0] == "0" and len(text) > 1:
        return None
    return int(text)


def pairs_told(text, sign):
    """List the pairs that stand in a text with blanks between, None for each thing of a pair that is no number."""
    pairs = []
    for part in text.split(" "):
        # Without the sign, and with a second one, the other thing is no number.
        one, _, other = part.partition(sign)
        pairs.append((number_told(one), number_told(other)))
    return pairs


def row_told(line, states, letters):
    """Give the next states and the answers told in a line of so many letters, None if it doesn't tell such."""
    pairs = pairs_told(line, "/")
    after = tuple([state for state, _ in pairs])
    told = tuple([answer for _, answer in pairs])
    if len(pairs) != letters or not is_row(after, states - 1) or not is_row(told, MOST_ANSWER):
        return None
    return after, told


def read_machine(text):
    """Give the machine that a text tells."""
    lines = lines_told(text)
    if not lines:
        raise BadLine(0)
    # There are as many states as lines, so that a line may tell a state the line of which comes later.
    states = min(len(lines), MOST_STATES)
    letters = len(lines[0].split(" "))
    rows = []
    for number, line in enumerate(lines):
        row = row_told(line, states, letters)
        if row is None or letters > MOST_LETTERS or number >= MOST_STATES:
            raise BadLine(number)
        rows.append(row)
    return tuple([after for after, _ in rows]), tuple([told for _, told in rows])


def letter_told(machine, sign):
    """Give the letter of the machine that a sign tells, None if it tells none."""
    letter = LETTERS.get(sign)
    if is_letter(machine, letter):
        return letter
    return None


def read_word(machine, text):
    """Give the word that a text tells."""
    check_machine(machine)
    if not isinstance(text, str):
        raise BadText(0)
    letters = [letter_told(machine, sign) for sign in text[:LONGEST_WORD]]
    if None in letters:
        raise BadText(letters.index(None))
    if len(text) > LONGEST_WORD:
        raise BadText(LONGEST_WORD)
    return tuple(letters)


def strike_told(line):
    """Give the place and the pushes told in a line; they may be none that can stand there."""
    place, _, pushes = line.partition(": ")
    return number_told(place), tuple(pairs_told(pushes, ">"))


def read_strikes(machine, copies, text):
    """Give the strikes that a text tells."""
    check_machine(machine)
    check_copies(copies)
    strikes = [strike_told(line) for line in lines_told(text)]
    wrong = wrong_strike(machine, copies, strikes[:MOST_STRIKES])
    if wrong is None and len(strikes) > MOST_STRIKES:
        wrong = MOST_STRIKES
    if wrong is not None:
        raise BadLine(wrong)
    return tuple(strikes)
