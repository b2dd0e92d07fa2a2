"""Prices of the words of patterns whose brackets are gone often, however long these words are."""

from onepurse.boards import ends_well, first_board, next_board
from onepurse.errors import BadPattern, BadSize, NotDear, TooWide
from onepurse.makers import bare
from onepurse.prices import least_size
from onepurse.tables import pattern_table, read_off
from onepurse.words import is_pattern

MOST_GOINGS = 400
MOST_NUMBER = 60


def bracket_rows(pattern):
    """For each bracket of a pattern the row of what is in it, letters and numbers of brackets; last the whole."""
    rows = []
    outside = []
    here = []
    for sign in pattern:
        if sign == "(":
            outside.append(here)
            here = []
        elif sign == ")":
            inner = here
            here = outside.pop()
            here.append(len(rows))
            rows.append(inner)
        else:
            here.append(sign)
    rows.append(here)
    return rows


def has_only_letters(row):
    """Whether there is no bracket in a row."""
    return all([isinstance(part, str) for part in row])


class Trail:
    """The boards that are come to with a size, each under a number, and where letters lead from them."""

    def __init__(self, machine, size):
        self.ground = machine
        self.size = size
        self.known_boards = [first_board(machine)]
        self.numbers = {self.known_boards[0]: 0}
        self.known_steps = {}
        self.known_rows = {}

    def number_of(self, found):
        """The number of a board, a new one if it has none yet."""
        if found not in self.numbers:
            self.numbers[found] = len(self.known_boards)
            self.known_boards.append(found)
        return self.numbers[found]

    def behind_letter(self, number, letter):
        """The number of the board behind a letter."""
        if (number, letter) not in self.known_steps:
            after = next_board(self.ground, self.known_boards[number], letter, size=self.size)
            self.known_steps[(number, letter)] = self.number_of(after)
        return self.known_steps[(number, letter)]

    def is_well(self, number):
        """Whether the board of a number ends well."""
        return ends_well(self.ground, self.known_boards[number])


class Round:
    """The rows of a pattern along a trail, with so many copies of each bracket.

    A word may be far too long to be gone letter by letter. But the boards are few, and what a bracket makes
    of a board is the same wherever it stands, so it is reckoned only once.
    """

    def __init__(self, trail, rows, goings):
        self.trail = trail
        self.rows = rows
        self.goings = goings
        # Letters alone lead to the same board however often brackets are gone, so the trail keeps that for all rounds.
        self.known_by_row = [trail.known_rows if has_only_letters(row) else {} for row in rows]

    def behind_row(self, at, number):
        """The number of the board behind all parts of a row."""
        for part in self.rows[at]:
            if isinstance(part, str):
                number = self.trail.behind_letter(number, part)
            else:
                number = self.behind_bracket(part, number)
        return number

    def behind_bracket(self, at, number):
        """The number of the board behind so many copies of a row."""
        known = self.known_by_row[at]
        for going in range(self.goings):
            if (at, number) not in known:
                known[(at, number)] = self.behind_row(at, number)
            after = known[(at, number)]
            if after == number:
                break
            number = after
        return number

    def lets(self):
        """Whether the pattern's word is let by."""
        return self.trail.is_well(self.behind_row(len(self.rows) - 1, 0))


def need_pattern(machine, pattern):
    """Refuses a text that is no pattern of the machine's letters."""
    if not is_pattern(pattern, machine.letters()):
        raise BadPattern()


def need_between(low, number, high):
    """Refuses a number beyond its bounds."""
    if not low <= number <= high:
        raise BadSize()


def is_let_often(machine, rows, goings, size):
    """Whether the word of a pattern's rows is let by with a size."""
    return Round(Trail(machine, size), rows, goings).lets()


def price_often(machine, pattern, goings):
    """The price of the pattern's word that is gone so often, or None where it has no way."""
    need_pattern(machine, pattern)
    need_between(1, goings, MOST_GOINGS)
    rows = bracket_rows(pattern)
    if not is_let_often(bare(machine), rows, goings, 0):
        return None
    if not is_let_often(machine, rows, goings, MOST_NUMBER):
        raise TooWide(MOST_NUMBER)
    return least_size(MOST_NUMBER, lambda size: is_let_often(machine, rows, goings, size))


def need_dear(machine, pattern):
    """Refuses a pattern without a table, or whose table doesn't read `dear`."""
    table = pattern_table(machine, pattern)
    if table is None or read_off(machine, table) != "dear":
        raise NotDear()


def how_often(machine, pattern, number, *, most=MOST_GOINGS):
    """The least count of goings by which the pattern's word is dearer than a number."""
    need_pattern(machine, pattern)
    need_between(0, number, MOST_NUMBER)
    need_between(1, most, MOST_GOINGS)
    need_dear(machine, pattern)
    rows = bracket_rows(pattern)
    trail = Trail(machine, number)
    # A pattern that reads `dear` has a way however often it is gone, so its word is dearer just where it isn't let by.
    # More goings may be cheaper than fewer, so none is passed over.
    for goings in range(1, most + 1):
        if not Round(trail, rows, goings).lets():
            return goings
    raise TooWide(most)
