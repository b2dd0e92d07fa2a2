"""Tables: for each two rooms the best mark with which letters, or a pattern, lead from the one to the other."""

from onepurse.errors import BadPattern, BadSize, BadTable, Unlike
from onepurse.machines import MOST_ROOMS
from onepurse.marks import again, behind, best
from onepurse.words import is_pattern


def letter_row(machine, room, letter):
    """The best deeds by a letter from a room to each room; a text that is no letter is refused by the machine."""
    steps = machine.steps(room, letter)
    return tuple([best([deed for deed, end in steps if end == other]) for other in range(machine.rooms())])


def letter_table(machine, letter):
    """The table of a letter."""
    return tuple([letter_row(machine, room, letter) for room in range(machine.rooms())])


def still_table(rooms):
    """The table of no letters, for so many rooms."""
    if not 1 <= rooms <= MOST_ROOMS:
        raise BadSize()
    return tuple([tuple(["keep" if room == other else "shut" for other in range(rooms)]) for room in range(rooms)])


def row_times(row, table):
    """The marks from one room to each room, by a row of marks and then by a table."""
    by_rooms = [[behind(mark, other) for other in marks] for mark, marks in zip(row, table)]
    return tuple([best(marks) for marks in zip(*by_rooms)])


def times(one, other):
    """The table of two tables, the other one behind the first."""
    if len(one) != len(other):
        raise Unlike()
    return tuple([row_times(row, other) for row in one])


def is_steady(table):
    """Whether a table times itself is itself."""
    for row in table:
        if row_times(row, table) != tuple(row):
            return False
    return True


def raised(table):
    """The table of a steady one that is gone again and again."""
    if not is_steady(table):
        raise BadTable()
    return raised_steady(table)


def raised_steady(table):
    """What raised tells, of a table that is known to be steady."""
    loops = [again(row[room]) for room, row in enumerate(table)]
    return tuple([row_times([behind(mark, loop) for mark, loop in zip(row, loops)], table) for row in table])


def read_off(machine, table):
    """The best mark of a table from a first room to a last one."""
    if len(table) != machine.rooms():
        raise Unlike()
    return best([table[first][last] for first in machine.firsts() for last in machine.lasts()])


def pattern_table(machine, pattern):
    """The table of a pattern, or None where what is in one of its brackets is not steady.

    What stands outside of a bracket waits in a list instead of by recursion, so that depth costs no calls.
    """
    if not is_pattern(pattern, machine.letters()):
        raise BadPattern()
    tables = {letter: letter_table(machine, letter) for letter in machine.letters()}
    here = still_table(machine.rooms())
    outside = []
    for sign in pattern:
        if sign == "(":
            outside.append(here)
            here = still_table(machine.rooms())
        elif sign != ")":
            here = times(here, tables[sign])
        elif is_steady(here):
            here = times(outside.pop(), raised_steady(here))
        else:
            return None
    return here
