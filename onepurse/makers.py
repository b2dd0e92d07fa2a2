"""Machines that are made of machines."""

from onepurse.boards import ends_well, first_board, next_board
from onepurse.errors import BadSize, Full, Unlike
from onepurse.machines import MOST_ROOMS, Machine

MOST_CHEAP = 12


def once_each(things):
    """A list in which each thing stands once."""
    return list({thing: True for thing in things})


def made(rooms, letters, arrows, firsts, lasts):
    """The machine with all of this; where no room is left, the one with one room and nothing else."""
    if rooms == 0:
        return Machine(1, letters, firsts=(), lasts=())
    if rooms > MOST_ROOMS:
        raise Full()
    return Machine(rooms, letters, arrows, firsts=firsts, lasts=lasts)


def numbered(rooms, letters, arrows, firsts, lasts):
    """The machine whose rooms are these things, numbered in their order; what leads elsewhere is left out."""
    number = {room: at for at, room in enumerate(rooms)}
    kept = [(number[start], letter, deed, number[end]) for start, letter, deed, end in arrows
            if start in number and end in number]
    starts = [number[room] for room in firsts if room in number]
    ends = [number[room] for room in lasts if room in number]
    return made(len(rooms), letters, once_each(kept), starts, ends)


def come_to(starts, arrows):
    """The starts and all that arrows lead to from them, by whatever steps."""
    found = {room: True for room in starts}
    newest = list(found)
    while newest:
        fresh = once_each([arrow[3] for arrow in arrows if arrow[0] in newest and arrow[3] not in found])
        found.update({room: True for room in fresh})
        newest = fresh
    return list(found)


def need_like(one, other):
    """Refuses two machines of unlike letters."""
    if one.letters() != other.letters():
        raise Unlike()


def turned_arrows(machine):
    """The arrows of a machine, each leading back."""
    return [(end, letter, deed, start) for start, letter, deed, end in machine.arrows()]


def turned(machine):
    """The machine that goes each way backwards."""
    firsts, lasts = machine.lasts(), machine.firsts()
    return Machine(machine.rooms(), machine.letters(), turned_arrows(machine), firsts=firsts, lasts=lasts)


def beside(one, other):
    """Both machines as one, the second one's rooms behind the first one's."""
    need_like(one, other)
    on = one.rooms()
    arrows = [(start + on, letter, deed, end + on) for start, letter, deed, end in other.arrows()]
    firsts = [room + on for room in other.firsts()]
    lasts = [room + on for room in other.lasts()]
    return made(on + other.rooms(), one.letters(), one.arrows() + arrows, one.firsts() + firsts, one.lasts() + lasts)


def all_pairs(some, others):
    """The pairs of one thing of each list."""
    return [(one, other) for one in some for other in others]


def within(machine, sieve):
    """The machine on just those words that a sieve lets by."""
    need_like(machine, sieve)
    arrows = [((one[0], other[0]), one[1], one[2], (one[3], other[3]))
              for one, other in all_pairs(machine.arrows(), sieve.arrows()) if one[1] == other[1]]
    firsts = all_pairs(machine.firsts(), sieve.firsts())
    lasts = all_pairs(machine.lasts(), sieve.lasts())
    return numbered(sorted(come_to(firsts, arrows)), machine.letters(), arrows, firsts, lasts)


def with_keep(machine):
    """The arrows of a machine with `keep` instead of their deeds, each once."""
    return once_each([(start, letter, "keep", end) for start, letter, deed, end in machine.arrows()])


def bare(machine):
    """The machine whose words cost nothing."""
    return Machine(machine.rooms(), machine.letters(), with_keep(machine),
                   firsts=machine.firsts(), lasts=machine.lasts())


def trimmed(machine):
    """The machine of those rooms that some way may use."""
    ahead = come_to(machine.firsts(), machine.arrows())
    back = come_to(machine.lasts(), turned_arrows(machine))
    rooms = [room for room in range(machine.rooms()) if room in ahead and room in back]
    return numbered(rooms, machine.letters(), machine.arrows(), machine.firsts(), machine.lasts())


def cheap(machine, size):
    """The machine that lets by just the words that are let by with a size."""
    if not 0 <= size <= MOST_CHEAP:
        raise BadSize()
    start = first_board(machine)
    found = [start] if start else []
    newest = list(found)
    arrows = []
    while newest:
        fresh = []
        for board in newest:
            for letter in machine.letters():
                after = next_board(machine, board, letter, size=size)
                arrows.append((board, letter, "keep", after))
                if after and after not in found:
                    found.append(after)
                    fresh.append(after)
        if len(found) > MOST_ROOMS:
            raise Full()
        newest = fresh
    lasts = [board for board in found if ends_well(machine, board)]
    return numbered(found, machine.letters(), arrows, found[:1], lasts)


def pieces(machine):
    """The machine in which a word costs as many cents as the fewest words of a machine that it is a row of."""
    hall = machine.rooms()
    firsts, lasts = machine.firsts(), machine.lasts()
    inner = with_keep(machine)
    entering = [(hall, letter, "cent", end) for start, letter, deed, end in inner if start in firsts]
    leading = inner + entering
    leaving = [(start, letter, deed, hall) for start, letter, deed, end in leading if end in lasts]
    return made(hall + 1, machine.letters(), once_each(leading + leaving), [hall], [hall])
