"""Boards: the rooms that a word may lead to, each with the least that was spent on the way there."""

from onepurse.errors import BadSize, BadWord
from onepurse.machines import is_letter
from onepurse.marks import spend


def need_size(size):
    """Refuses a size of purses below nought."""
    if size < 0:
        raise BadSize()


def least_ones(triples):
    """The board of some triples: of each room those that no other one undercuts, rising, once each."""
    kept = []
    for triple in sorted([tuple(triple) for triple in triples]):
        # Those kept of a room fall in the greater purse, so the last one tells of all that came ahead.
        if not kept or kept[-1][0] != triple[0] or triple[2] < kept[-1][2]:
            kept.append(triple)
    return tuple(kept)


def first_board(machine):
    """The board of the word of no letters."""
    return tuple([(room, 0, 0) for room in machine.firsts()])


def leads(machine, board, letter):
    """For each triple of a board and each arrow of it by a letter: the triple, the deed, the triple behind it."""
    return [(triple, deed, (end,) + spend(triple[1:], deed))
            for triple in board for deed, end in machine.steps(triple[0], letter)]


def next_board(machine, board, letter, *, size):
    """The board behind a letter, of what is led to with neither purse beyond the size."""
    need_size(size)
    if not is_letter(letter, machine.letters()):
        raise BadWord()
    made = [after for triple, deed, after in leads(machine, board, letter)]
    return least_ones([triple for triple in made if max(triple[1], triple[2]) <= size])


def boards_along(machine, letters, size):
    """The boards ahead of, between and behind some letters of the machine, however many they are."""
    boards = [first_board(machine)]
    for letter in letters:
        boards.append(next_board(machine, boards[-1], letter, size=size))
    return boards


def board_of(machine, word, *, size):
    """The last board of a word with a size."""
    machine.need_word(word)
    need_size(size)
    return boards_along(machine, word, size)[-1]


def ends_well(machine, board):
    """Whether one of the rooms of a board is a last one."""
    lasts = machine.lasts()
    return any([triple[0] in lasts for triple in board])
