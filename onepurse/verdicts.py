"""Verdicts: one size of purses that is enough for every word that is let by, or a pattern that gets ever dearer."""

from onepurse.boards import boards_along, ends_well, first_board, need_size, next_board
from onepurse.closing import dear_pattern
from onepurse.errors import BadSize, TooWide
from onepurse.tables import pattern_table, read_off
from onepurse.words import is_pattern

MOST_SIZE = 12
MOST_PAIRS = 1000


def need_most(most):
    """Refuses a bound of pairs that is none."""
    if not 1 <= most <= MOST_PAIRS:
        raise BadSize()


def first_pair(machine):
    """The pair of the word of no letters."""
    return (tuple(machine.firsts()), first_board(machine))


def next_pair(machine, pair, letter, size):
    """The pair behind a letter."""
    rooms, board = pair
    return (machine.rooms_behind(rooms, letter), next_board(machine, board, letter, size=size))


def has_last(machine, rooms):
    """Whether one of some rooms is a last one."""
    lasts = machine.lasts()
    return any([room in lasts for room in rooms])


def fails(machine, pair):
    """Whether the words of a pair are let by, but not with its size."""
    rooms, board = pair
    return has_last(machine, rooms) and not ends_well(machine, board)


def searched_pairs(machine, size, most):
    """The first word of each pair that is found ahead of one that fails, by pairs, and the word of that one or None.

    What comes behind a pair rests on the pair alone, so only its first word has to be led on.
    """
    newest = [first_pair(machine)]
    words = {newest[0]: ""}
    while newest:
        fresh = []
        for pair in newest:
            for letter in machine.letters():
                made = next_pair(machine, pair, letter, size)
                if made in words:
                    continue
                if fails(machine, made):
                    return words, words[pair] + letter
                if len(words) == most:
                    raise TooWide(most)
                words[made] = words[pair] + letter
                fresh.append(made)
        newest = fresh
    return words, None


def first_dear(machine, size, *, most=MOST_PAIRS):
    """The first word that is let by, but not with the size, or None where the size is enough."""
    need_size(size)
    need_most(most)
    return searched_pairs(machine, size, most)[1]


def is_enough(machine, size, *, most=MOST_PAIRS):
    """Whether every word that is let by is let by with the size."""
    return first_dear(machine, size, most=most) is None


def first_let_by(machine, words):
    """The first word that is let by, or None, of the first words by pairs, in the order in which they are found."""
    let_by = [word for pair, word in words.items() if has_last(machine, pair[0])]
    return let_by[0] if let_by else None


def enough_verdict(machine, most):
    """The verdict with the least size that is enough."""
    word = None
    for size in range(MOST_SIZE + 1):
        words, dear = searched_pairs(machine, size, most)
        if dear is None:
            needing = first_let_by(machine, words) if size == 0 else word
            return ("enough", size, needing, list(words))
        word = dear
    raise TooWide(MOST_SIZE)


def verdict(machine, *, most=MOST_PAIRS):
    """Either ("never", pattern) or ("enough", size, word, pairs)."""
    need_most(most)
    pattern = dear_pattern(machine)
    if pattern is not None:
        return ("never", pattern)
    return enough_verdict(machine, most)


def never_holds(machine, pattern):
    """Whether a text is a pattern whose table reads `dear`."""
    if not is_pattern(pattern, machine.letters()):
        return False
    table = pattern_table(machine, pattern)
    return table is not None and read_off(machine, table) == "dear"


def is_let_by(machine, word, size):
    """Whether a word of the machine's letters, of whatever length, is let by with a size."""
    return size >= 0 and ends_well(machine, boards_along(machine, word, size)[-1])


def has_price(machine, word, size):
    """Whether a text of whatever length has this price; None is taken for the price 0."""
    if word is None:
        return size == 0
    if not all([letter in machine.letters() for letter in word]):
        return False
    return is_let_by(machine, word, size) and not is_let_by(machine, word, size - 1)


def pairs_hold(machine, pairs, size):
    """Whether pairs have the first one, lead only to one another, and none of them fails."""
    known = {(tuple(rooms), tuple([tuple(triple) for triple in board])): True for rooms, board in pairs}
    if first_pair(machine) not in known:
        return False
    for pair in known:
        if fails(machine, pair):
            return False
        if not all([next_pair(machine, pair, letter, size) in known for letter in machine.letters()]):
            return False
    return True


def verdict_holds(machine, told):
    """Whether a tuple of one of the two forms shows what it says of the machine."""
    if told[0] == "never":
        return never_holds(machine, told[1])
    size, word, pairs = told[1:]
    return has_price(machine, word, size) and pairs_hold(machine, pairs, size)
