"""Machines, words and strikes for the tests, and slow checks that follow the document's words alone."""

from itertools import combinations, product
from random import Random

from pushedclerks.errors import ClerkError

LAST = (((0, 1), (0, 1)), ((0, 0), (1, 1)))
RING = (((1,), (0,)), ((0,), (1,)))
CHAIN = (((0, 1), (0, 2), (0, 3), (0, 3)), ((0, 0), (0, 0), (0, 0), (0, 1)))
SILENT = (((0, 1, 1), (1, 0, 0)), ((5, 5, 5), (5, 5, 5)))
# State 2 cannot come, and just its first answer is another one.
ASIDE = (((1,), (0,), (0,)), ((0,), (0,), (1,)))
# States 2 and 3 cannot come, lead to each other for ever, and answer otherwise than state 0, which alone comes.
APART = (((0, 0), (0, 0), (0, 3), (0, 2)), ((0, 0), (0, 0), (0, 0), (0, 1)))
GREATEST = (
    ((1, 2, 3), (2, 3, 4), (3, 4, 5), (4, 5, 0), (5, 0, 1), (0, 1, 2)),
    ((0, 9, 1), (2, 9, 3), (4, 9, 5), (6, 9, 7), (8, 9, 0), (9, 0, 9)),
)
# Six states in a row, each letter but the first leading back: it takes five letters to answer 1.
LONGEST = (
    ((1, 0), (2, 0), (3, 0), (4, 0), (5, 0), (5, 0)),
    ((0, 0), (0, 0), (0, 0), (0, 0), (0, 0), (1, 0)),
)
# The states 0 and 1 come, and only state 2, which doesn't, can be led to unlike answers.
ONLY_BY_ASIDE = (((1,), (1,), (3,), (1,)), ((0,), (0,), (0,), (7,)))
NAMED = (LAST, RING, CHAIN, SILENT, ASIDE, APART, GREATEST)

# What is no integer of the document, and integers that it allows nowhere.
NO_NUMBERS = (True, False, None, "", "1", (), (1,), [], [1], {}, {1: 1}, -1, -2, 10 ** 30, -10 ** 30)

# What is neither a machine, a state, a word, nor what late_word or never_forgets return.
ODD = (
    True, False, -1, 7, 10 ** 30, "", "a", "abc", "machine", [], [0], {}, {0: 0}, {"steps": ()},
    [[0]], ((),), ((), ()), (None,), (None, None), ((((((),),),),),), (((0,),), ((0,),), ((0,),)),
    ([], 0, []), ([], 0, [0], [0]), ("", 0, ""), ("", 0, "", ""), (None, 0, None), (None, 0, None, None),
    ((), None, (), ()), ({}, 0, {}), ({}, {}, {}, {}), ((), (0,), ()), ((), (), (), ()),
)


def outcome(call, *values):
    """Give what a call returns, or the kind and the fields of the error that it raises."""
    try:
        return "returned", call(*values)
    except ClerkError as error:
        return type(error), vars(error)


def all_machines(states, letters, kinds):
    """List all machines of so many states and letters, with answers below kinds."""
    rows_of_steps = list(product(range(states), repeat=letters))
    rows_of_answers = list(product(range(kinds), repeat=letters))
    return [
        (steps, told)
        for steps in product(rows_of_steps, repeat=states)
        for told in product(rows_of_answers, repeat=states)
    ]


def some_machines(seed, many, most_states=6, most_letters=3):
    """List so many machines, the same for the same seed; many of them forget, and many have states alike."""
    chance = Random(seed)
    return [one_machine(chance, most_states, most_letters) for _ in range(many)]


def one_machine(chance, most_states, most_letters):
    states = chance.randint(1, most_states)
    letters = chance.randint(1, most_letters)
    like_chain, seldom = chance.random(), chance.choice((0.1, 0.3, 0.6))

    def after(state):
        if chance.random() < like_chain:
            return chance.choice((0, min(state + 1, states - 1)))
        return chance.randrange(states)

    def answer():
        return chance.randrange(1, 10) if chance.random() < seldom else 0

    steps = tuple(tuple(after(state) for _ in range(letters)) for state in range(states))
    return steps, tuple(tuple(answer() for _ in range(letters)) for _ in range(states))


def small_machines():
    """List all machines of 1 or 2 states and 1 or 2 letters, and of 3 states and 1 letter, with answers 0 and 1."""
    found = []
    for states, letters in ((1, 1), (1, 2), (2, 1), (2, 2), (3, 1)):
        found.extend(all_machines(states, letters, 2))
    return found


def letters_of(machine):
    return len(machine[0][0])


def words(letters, longest):
    """List all words of so many letters at most, the shortest first, otherwise in ascending sequence."""
    return [word for length in range(longest + 1) for word in product(range(letters), repeat=length)]


def lead(machine, state, word):
    for letter in word:
        state = machine[0][state][letter]
    return state


def last_answer(machine, state, word):
    return machine[1][lead(machine, state, word[:-1])][word[-1]]


def all_answers(machine, state, word):
    return tuple(last_answer(machine, state, word[:end]) for end in range(1, len(word) + 1))


def states_that_come(machine):
    """A state that comes at all comes behind fewer letters than there are states."""
    return sorted({lead(machine, 0, word) for word in words(letters_of(machine), len(machine[0]) - 1)})


def is_late(machine, word):
    """The words of point 3, a word being late."""
    here = {last_answer(machine, state, word) for state in states_that_come(machine)}
    anywhere = {last_answer(machine, state, word) for state in range(len(machine[0]))}
    # Some of here and some of anywhere are unlike, unless both are one and the same answer.
    return len(here | anywhere) > 1


def late_lengths(machine, longest):
    """List the lengths, of so many letters at most, of late words."""
    letters = letters_of(machine)
    return [
        length for length in range(1, longest + 1)
        if any(is_late(machine, word) for word in product(range(letters), repeat=length))
    ]


def slow_late(machine, longest):
    """The greatest length of a late word, taking it for endless if one of just so many letters is late."""
    lengths = late_lengths(machine, longest)
    if longest in lengths:
        return None
    return max(lengths, default=0)


def all_pushes(machine, copies, pushed):
    """List all pushes, not empty, of so many copies at most, each into any state."""
    found = []
    for many in range(1, min(copies, pushed) + 1):
        for chosen in combinations(range(copies), many):
            for states in product(range(len(machine[0])), repeat=many):
                found.append(tuple(zip(chosen, states)))
    return found


def all_strikes(machine, copies, pushed, room, places):
    """List all strikes of so many pushed ones at most, at places below so many that differ by the room at least."""
    pushes = all_pushes(machine, copies, pushed)
    found = [()]
    for place in range(places):
        # Those listed until here end ahead of this place.
        found += [
            strikes + ((place, row),) for strikes in found for row in pushes
            if not strikes or place - strikes[-1][0] >= room
        ]
    return found


def some_strikes(chance, machine, copies, places):
    """Give strikes at some of so many places, each of some copies, into any states."""
    found = []
    often = chance.random()
    for place in range(places):
        if chance.random() < often:
            chosen = sorted(chance.sample(range(copies), chance.randint(1, copies)))
            found.append((place, tuple((copy, chance.randrange(len(machine[0]))) for copy in chosen)))
    return tuple(found)


def slow_state(machine, word, strikes, copy, place):
    """The state of a copy ahead of the letter at a place, a strike there being done: it goes by its last push."""
    state, since = 0, 0
    for at, pushes in strikes:
        if at <= place and copy in dict(pushes):
            state, since = dict(pushes)[copy], at
    return lead(machine, state, word[since:place])


def slow_letter(machine, copies, word, strikes, place):
    """The words of point 7, for the letter at a place: (right answer, the copies' answers, vote)."""
    letter = word[place]
    given = tuple(
        machine[1][slow_state(machine, word, strikes, copy, place)][letter] for copy in range(copies))
    votes = [answer for answer in range(10) if 2 * len([other for other in given if other == answer]) > copies]
    return last_answer(machine, 0, word[:place + 1]), given, votes[0] if votes else None


def slow_course(machine, copies, word, strikes):
    return tuple(slow_letter(machine, copies, word, strikes, place) for place in range(len(word)))


def is_story(machine, copies, pushed, room, word, strikes):
    """The words of point 8, for a word and strikes that are such."""
    if not 1 <= len(word) <= 4000 or any(len(pushes) > pushed for _, pushes in strikes):
        return False
    if any(after[0] - strike[0] < room for strike, after in zip(strikes, strikes[1:])):
        return False
    right, _, vote = slow_letter(machine, copies, word, strikes, len(word) - 1)
    return vote != right


def states_struck(machine, states, pushed):
    """All that so many pushes at most make of the copies' states; which copy is in which is all one."""
    found = {states}
    for _ in range(min(pushed, len(states))):
        found |= {
            tuple(sorted(row[:copy] + (into,) + row[copy + 1:]))
            for row in found for copy in range(len(row)) for into in range(len(machine[0]))
        }
    return found


def slow_enough(machine, copies, pushed, room):
    """The words of point 5: go through all to which words and strikes of any length can lead.

    That is the state of a copy that never was pushed, those of the copies, and how many letters there must be
    until the next strike.
    """
    begun = (0, (0,) * copies, 0)
    seen, waiting = {begun}, [begun]
    while waiting:
        right, states, wait = waiting.pop()
        choices = [(states, max(wait - 1, 0))]
        if wait == 0:
            choices += [(struck, room - 1) for struck in states_struck(machine, states, pushed)]
        for (struck, after), letter in product(choices, range(letters_of(machine))):
            alike = [state for state in struck if machine[1][state][letter] == machine[1][right][letter]]
            if 2 * len(alike) <= copies:
                return False
            led = tuple(sorted(machine[0][state][letter] for state in struck))
            come = (machine[0][right][letter], led, after)
            if come not in seen:
                seen.add(come)
                waiting.append(come)
    return True


def slow_states(machine, copies, events):
    """The words of point 9: the state of each copy behind pushes (copy, state) and letters (letter,).

    A copy's state goes by its last push and the letters behind it alone.
    """
    found = []
    for copy in range(copies):
        state = 0
        for event in events:
            if len(event) == 1:
                state = machine[0][state][event[0]]
            elif event[0] == copy:
                state = event[1]
        found.append(state)
    return tuple(found)


def letters_read(events):
    return tuple(event[0] for event in events if len(event) == 1)


def slow_astray(machine, copies, events):
    right = lead(machine, 0, letters_read(events))
    states = slow_states(machine, copies, events)
    return tuple(copy for copy in range(copies) if states[copy] != right)


def slow_vote(machine, copies, events):
    """The vote at the last event, a letter."""
    letter = events[-1][0]
    given = [machine[1][state][letter] for state in slow_states(machine, copies, events[:-1])]
    votes = [answer for answer in set(given) if 2 * given.count(answer) > copies]
    return votes[0] if votes else None


def slow_misses(machine, copies, events):
    """At how many letters the vote wasn't the right answer."""
    ends = [end for end in range(1, len(events) + 1) if len(events[end - 1]) == 1]
    return sum(
        slow_vote(machine, copies, events[:end]) != last_answer(machine, 0, letters_read(events[:end])) for end in ends)


def some_events(chance, machine, copies, many):
    """Give so many pushes and letters, some of the pushes of one copy one behind the other."""
    often = chance.random()
    found = []
    for _ in range(many):
        if chance.random() < often:
            found.append((chance.randrange(copies), chance.randrange(len(machine[0]))))
        else:
            found.append((chance.randrange(letters_of(machine)),))
    return found
