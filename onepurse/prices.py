"""Prices of words, with papers both ways: a way that shows the price, and rows that shut a word."""

from onepurse.boards import board_of, boards_along, ends_well, first_board, leads, least_ones, need_size, next_board
from onepurse.marks import peak


def least_size(high, lets_by):
    """The least size that lets by, of those from 0 on; the one that is handed in does, and all beyond one that does."""
    low = 0
    while low < high:
        middle = (low + high) // 2
        if lets_by(middle):
            high = middle
        else:
            low = middle + 1
    return low


def price(machine, word):
    """The least size with which a word is let by, or None where it has no way."""
    if not machine.lets(word):
        return None
    # No arrow spends more than one, so a size of as many as there are letters is always enough.
    return least_size(len(word), lambda size: ends_well(machine, board_of(machine, word, size=size)))


def way(machine, word):
    """The arrows of a way of the least price, or None where a word has no way."""
    size = price(machine, word)
    if size is None:
        return None
    boards = boards_along(machine, word, size)
    lasts = machine.lasts()
    after = [triple for triple in boards[-1] if triple[0] in lasts][0]
    arrows = []
    for at in reversed(range(len(word))):
        triple, deed = step_back(machine, boards[at], word[at], after)
        arrows.append((triple[0], word[at], deed, after[0]))
        after = triple
    return arrows[::-1]


def step_back(machine, board, letter, after):
    """A triple of a board and the deed by which it leads to a triple of the next board."""
    found = [(triple, deed) for triple, deed, made in leads(machine, board, letter) if made == after]
    return found[0]


def is_way(machine, word, arrows):
    """Whether some arrows are a way of a word."""
    known = machine.arrows()
    if not all([arrow in known for arrow in arrows]) or "".join([arrow[1] for arrow in arrows]) != word:
        return False
    if word == "":
        return machine.lets(word)
    joined = all([one[3] == other[0] for one, other in zip(arrows, arrows[1:])])
    return joined and arrows[0][0] in machine.firsts() and arrows[-1][3] in machine.lasts()


def way_price(machine, word, arrows):
    """The price of a way, or None where the arrows are no way of this word."""
    machine.need_word(word)
    if not is_way(machine, word, arrows):
        return None
    return peak([arrow[2] for arrow in arrows])


def shut_rows(machine, word, *, size):
    """The boards that show that a word is not let by with a size, or None where it is."""
    machine.need_word(word)
    need_size(size)
    boards = boards_along(machine, word, size)
    return None if ends_well(machine, boards[-1]) else boards


def covers(row, triples):
    """Whether a row has for each triple one of its room that has spent no more from either purse."""
    return least_ones([*row, *triples]) == least_ones(row)


def shut_holds(machine, word, rows, *, size):
    """Whether rows show that a word is not let by with a size."""
    machine.need_word(word)
    need_size(size)
    if len(rows) != len(word) + 1 or not covers(rows[0], first_board(machine)):
        return False
    for row, letter, after in zip(rows, word, rows[1:]):
        # The next board leaves out what is led to by a dearer triple, and that is covered where the cheaper one is.
        if not covers(after, next_board(machine, row, letter, size=size)):
            return False
    return not ends_well(machine, rows[-1])
