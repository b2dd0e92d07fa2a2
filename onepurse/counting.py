"""How many words of a length have which price.

The words of a length are far too many to be gone one by one. But many of them lead to one state: the rooms that they
may lead to, each with a front, which is a board of this room alone. So states are counted instead, letter by letter.
"""

from onepurse.boards import least_ones
from onepurse.errors import BadSize
from onepurse.machines import steps_by_start
from onepurse.marks import spend

MOST_LENGTH = 20


class Fronts:
    """The fronts that are come to with a size, each under a number; the empty one has the number 0.

    What is no more than the number `low` can't get beyond the size in the letters that are left, so it counts as
    that number: this makes many fronts alike. The front `safe` is the one in which all is so.
    """

    def __init__(self, size):
        self.size = size
        self.known_fronts = [()]
        self.numbers = {(): 0}
        self.low = 0
        self.safe = 0
        self.known_steps = {}
        self.known_joins = {}

    def go_on(self, left):
        """Goes on to where so many letters are left."""
        self.low = max(0, self.size - left)
        self.safe = self.number_of([(self.low, self.low)]) if self.size >= left else -1
        self.known_steps = {}
        self.known_joins = {}

    def number_of(self, pairs):
        """The number of the front of some pairs of what was spent."""
        low = self.low
        found = least_ones([(0, max(lesser, low), max(greater, low)) for lesser, greater in pairs
                            if max(lesser, greater) <= self.size])
        if found not in self.numbers:
            self.numbers[found] = len(self.known_fronts)
            self.known_fronts.append(found)
        return self.numbers[found]

    def behind_deed(self, number, deed):
        """The number of the front behind a deed."""
        key = (number, deed)
        if key not in self.known_steps:
            self.known_steps[key] = self.number_of([spend(triple[1:], deed) for triple in self.known_fronts[number]])
        return self.known_steps[key]

    def joined(self, one, other):
        """The number of the front of two fronts of one room."""
        key = (one, other)
        if key not in self.known_joins:
            both = self.known_fronts[one] + self.known_fronts[other]
            self.known_joins[key] = self.number_of([triple[1:] for triple in both])
        return self.known_joins[key]


def alive_rooms(machine, length):
    """For each count of letters to a length the rooms from which so many letters may lead to a last one."""
    alive = [{room: True for room in machine.lasts()}]
    for left in range(length):
        alive.append({arrow[0]: True for arrow in machine.arrows() if arrow[3] in alive[left]})
    return alive


def next_state(steps, fronts, state, letter, alive):
    """The state behind a letter, a rising tuple of pairs of a room and its front's number."""
    made = {}
    for room, number in state:
        for deed, end in steps.get((room, letter), ()):
            if end in alive:
                here = fronts.behind_deed(number, deed)
                made[end] = fronts.joined(made[end], here) if end in made else here
    return tuple(sorted(made.items()))


def next_layer(machine, fronts, layer, alive):
    """Of the states of words, with how many they are and the first one, rising, those with one letter more."""
    steps = steps_by_start(machine.arrows())
    after = {}
    for state, (count, word) in layer.items():
        for letter in machine.letters():
            made = next_state(steps, fronts, state, letter, alive)
            # Where each room is safe, no word that goes on from here is too dear, and only such are counted.
            if not all([number == fronts.safe for room, number in made]):
                before = after.get(made, (0, word + letter))
                after[made] = (before[0] + count, before[1])
    return after


def dear_words(machine, length, size):
    """How many words of a length are let by, but not with a size, from -1 on, and the first one, rising, or None."""
    fronts = Fronts(size)
    alive = alive_rooms(machine, length)
    start = fronts.number_of([(0, 0)])
    layer = {tuple([(room, start) for room in machine.firsts() if room in alive[length]]): (1, "")}
    for left in reversed(range(length)):
        fronts.go_on(left)
        layer = next_layer(machine, fronts, layer, alive[left])
    dear = [told for state, told in layer.items() if state and not any([number for room, number in state])]
    return (sum([told[0] for told in dear]), dear[0][1] if dear else None)


def dear_rows(machine, length):
    """What dear_words tells of the sizes from -1 on, up to the one for which there are none."""
    if not 0 <= length <= MOST_LENGTH:
        raise BadSize()
    rows = [dear_words(machine, length, -1)]
    while rows[-1][0]:
        rows.append(dear_words(machine, length, len(rows) - 1))
    return rows


def counts(machine, length):
    """The rising list of pairs (price, how many words of this length have it)."""
    many = [row[0] for row in dear_rows(machine, length)]
    pairs = [(at, one - other) for at, (one, other) in enumerate(zip(many, many[1:]))]
    return [pair for pair in pairs if pair[1]]


def dearest(machine, length):
    """The pair of the greatest price of a word of this length and the first such word, rising, or None."""
    rows = dear_rows(machine, length)
    return (len(rows) - 2, rows[-2][1]) if len(rows) > 1 else None
