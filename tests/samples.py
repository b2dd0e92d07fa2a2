"""Machines for the tests, and slow ways to what the program tells, written from the document alone."""

import itertools
import random

from onepurse.machines import Machine

HUGE = 10 ** 30 - 1
DEEDS = ("keep", "cent", "fill", "coin", "brim")
BEST_FIRST = ("brim", "fill", "keep", "cent", "coin", "dear", "shut")
MADE_LAST = ("keep", "cent", "fill", "coin", "brim", "dear", "shut")


def small():
    """Three rooms, with several arrows from one room to another."""
    arrows = [(0, "a", "cent", 1), (0, "a", "keep", 1), (0, "a", "coin", 2), (0, "b", "cent", 0), (1, "a", "coin", 1),
              (1, "b", "fill", 0), (1, "b", "cent", 2), (2, "a", "brim", 2), (2, "b", "coin", 1)]
    return Machine(3, "ab", arrows, firsts=[0, 1], lasts=[2])


def loop(deed, letters="a"):
    """One room, first and last, with one arrow by the first letter."""
    return Machine(1, letters, [(0, letters[0], deed, 0)])


def wide():
    """Eight rooms, whose turns by two letters alone have more than 400 tables."""
    turn = [(room, "a", "keep", (room + 1) % 8) for room in range(8)]
    swap = [(room, "b", "keep", {0: 1, 1: 0}.get(room, room)) for room in range(8)]
    return Machine(8, "ab", turn + swap)


def ring(rooms, deed="cent"):
    """One letter that leads round about: as many tables as rooms, and raised ones."""
    arrows = [(room, "a", deed, (room + 1) % rooms) for room in range(rooms)]
    return Machine(rooms, "a", arrows)


def nested():
    """A lesser purse that is filled ever again, and a greater one that is not."""
    return Machine(2, "ab", [(0, "a", "cent", 0), (0, "b", "coin", 1), (1, "a", "keep", 1), (1, "b", "fill", 0)])


def made_by_chance(seed, rooms, letters, arrows):
    """A machine that is the same for the same seed, with any first and last rooms."""
    chance = random.Random(seed)
    every = list(itertools.product(range(rooms), letters, DEEDS, range(rooms)))
    some = chance.sample(every, min(arrows, len(every)))
    firsts = [room for room in range(rooms) if chance.random() < 0.6]
    lasts = [room for room in range(rooms) if chance.random() < 0.5]
    return Machine(rooms, letters, some, firsts=firsts, lasts=lasts)


def many_machines(count, most_rooms=3, letters="ab", most_arrows=9):
    """So many machines of all kinds of sizes."""
    sizes = itertools.cycle(itertools.product(range(1, most_rooms + 1), range(1, most_arrows + 1)))
    return [made_by_chance(seed, rooms, letters, arrows) for seed, (rooms, arrows) in zip(range(count), sizes)]


def words_of(letters, longest):
    """All words of these letters, the shorter ones first."""
    for length in range(longest + 1):
        for signs in itertools.product(letters, repeat=length):
            yield "".join(signs)


def all_of(machine):
    return (machine.rooms(), machine.letters(), machine.arrows(), machine.firsts(), machine.lasts())


def spent(purses, deed):
    lesser, greater = purses
    return {"keep": (lesser, greater), "cent": (lesser + 1, greater), "fill": (0, greater),
            "coin": (0, greater + 1), "brim": (0, 0)}[deed]


def moments(deeds):
    """What was spent at each moment of a row of deeds."""
    pairs = [(0, 0)]
    for deed in deeds:
        pairs.append(spent(pairs[-1], deed))
    return pairs


def slow_peak(deeds):
    return max(max(pair) for pair in moments(deeds))


def paths(machine, word):
    """Each row of arrows from a first room by a word, with the room that it leads to."""
    found = [((), room) for room in machine.firsts()]
    for letter in word:
        found = [(path + (arrow,), arrow[3]) for path, room in found for arrow in machine.arrows()
                 if arrow[0] == room and arrow[1] == letter]
    return found


def slow_price(machine, word):
    """The least peak of all ways of a word, None where there are none."""
    peaks = [slow_peak([arrow[2] for arrow in path]) for path, room in paths(machine, word) if room in machine.lasts()]
    return min(peaks, default=None)


def long_price(machine, word):
    """The price of a long word: by all that can be spent on its ways, with the peaks so far, and nothing left out."""
    states = {(room, 0, 0, 0) for room in machine.firsts()}
    for letter in word:
        after = set()
        for room, lesser, greater, highest in states:
            for start, by, deed, end in machine.arrows():
                if start == room and by == letter:
                    pair = spent((lesser, greater), deed)
                    after.add((end, *pair, max(highest, *pair)))
        states = after
    return min([state[3] for state in states if state[0] in machine.lasts()], default=None)


def states_behind(machine, states, letter, size):
    """Of some triples all those behind a letter with neither purse beyond the size, and none left out."""
    after = set()
    for room, lesser, greater in states:
        for start, by, deed, end in machine.arrows():
            if (start, by) == (room, letter):
                pair = spent((lesser, greater), deed)
                if max(pair) <= size:
                    after.add((end, *pair))
    return after


def slow_lets_with(machine, word, size):
    """Whether a word, however long, is let by with a size."""
    states = {(room, 0, 0) for room in machine.firsts()}
    for letter in word:
        states = states_behind(machine, states, letter, size)
    return any(state[0] in machine.lasts() for state in states)


def slow_rooms(machine, word):
    """The rooms that a word may lead to at all."""
    rooms = set(machine.firsts())
    for letter in word:
        rooms = {arrow[3] for arrow in machine.arrows() if arrow[0] in rooms and arrow[1] == letter}
    return tuple(sorted(rooms))


def slow_lets(machine, word):
    return any(room in machine.lasts() for room in slow_rooms(machine, word))


def slow_least(triples):
    """The board of some triples, by looking at each two of them."""
    every = {tuple(triple) for triple in triples}

    def is_left_out(one):
        return any(other != one and other[0] == one[0] and other[1] <= one[1] and other[2] <= one[2] for other in every)

    return tuple(sorted(triple for triple in every if not is_left_out(triple)))


def slow_board(machine, word, size):
    """The last board of a word, by all its paths."""
    triples = []
    for path, room in paths(machine, word):
        pairs = moments([arrow[2] for arrow in path])
        if max(max(pair) for pair in pairs) <= size:
            triples.append((room, *pairs[-1]))
    return slow_least(triples)


def slow_behind(one, other):
    return MADE_LAST[max(MADE_LAST.index(one), MADE_LAST.index(other))]


def slow_best(marks):
    return BEST_FIRST[min([BEST_FIRST.index(mark) for mark in marks], default=6)]


def slow_letter_table(machine, letter):
    rooms = range(machine.rooms())
    return tuple(
        tuple(slow_best([arrow[2] for arrow in machine.arrows() if (arrow[0], arrow[1], arrow[3]) == (one, letter, other)])
              for other in rooms)
        for one in rooms)


def slow_times(one, other):
    rooms = range(len(one))
    return tuple(tuple(slow_best([slow_behind(one[i][k], other[k][j]) for k in rooms]) for j in rooms) for i in rooms)


def slow_raised(table):
    rooms = range(len(table))

    def through(i, k, j):
        again = "dear" if table[k][k] in ("cent", "coin") else table[k][k]
        return slow_behind(slow_behind(table[i][k], again), table[k][j])

    return tuple(tuple(slow_best([through(i, k, j) for k in rooms]) for j in rooms) for i in rooms)


def slow_closing(machine, most):
    """The set of all tables of the closing, by all products of each two; None where they are more than so many."""
    found = {slow_letter_table(machine, letter) for letter in machine.letters()}
    while len(found) <= most:
        more = {slow_times(one, other) for one in found for other in found}
        more |= {slow_raised(table) for table in found if slow_times(table, table) == table}
        if more <= found:
            return found
        found |= more
    return None


def slow_pattern_table(machine, pattern):
    """The table of a pattern, by taking it apart from its outermost brackets on; None where there is none."""
    made = None
    while pattern:
        if pattern[0] == "(":
            depth, end = 1, 1
            while depth:
                depth += {"(": 1, ")": -1}.get(pattern[end], 0)
                end += 1
            inner = slow_pattern_table(machine, pattern[1:end - 1])
            if inner is None or slow_times(inner, inner) != inner:
                return None
            part = slow_raised(inner)
        else:
            part, end = slow_letter_table(machine, pattern[0]), 1
        made = part if made is None else slow_times(made, part)
        pattern = pattern[end:]
    return made
