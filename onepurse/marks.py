"""Deeds on two purses, and the marks that are made of rows of them."""

from onepurse.errors import BadMark

DEEDS = ("keep", "cent", "fill", "coin", "brim")
MARKS = ("brim", "fill", "keep", "cent", "coin", "dear", "shut")

# Of two marks one behind the other the later one in this order is made.
MAKING = ("keep", "cent", "fill", "coin", "brim", "dear", "shut")


def need_deed(deed):
    """Refuses a text that is no deed."""
    if deed not in DEEDS:
        raise BadMark()


def need_mark(mark):
    """Refuses a text that is no mark."""
    if mark not in MARKS:
        raise BadMark()


def spend(purses, deed):
    """The pair of what is spent from the lesser and the greater purse, behind a deed."""
    need_deed(deed)
    lesser, greater = purses
    if deed == "cent":
        return (lesser + 1, greater)
    if deed == "fill":
        return (0, greater)
    if deed == "coin":
        return (0, greater + 1)
    if deed == "brim":
        return (0, 0)
    return (lesser, greater)


def peak(deeds):
    """The greatest number that either purse has spent at any moment of a row of deeds."""
    purses = (0, 0)
    highest = 0
    for deed in deeds:
        purses = spend(purses, deed)
        highest = max(highest, purses[0], purses[1])
    return highest


def mark_of(deeds):
    """The mark that is made of all deeds of a row."""
    made = "keep"
    for deed in deeds:
        need_deed(deed)
        made = behind(made, deed)
    return made


def behind(one, other):
    """The mark that is made of two marks, the other one behind the first."""
    need_mark(one)
    need_mark(other)
    return MAKING[max(MAKING.index(one), MAKING.index(other))]


def best(marks):
    """The best one of some marks, `shut` of none."""
    for mark in marks:
        need_mark(mark)
    for mark in MARKS:
        if mark in marks:
            return mark
    return "shut"


def again(mark):
    """What a mark becomes that is gone again and again."""
    need_mark(mark)
    return "dear" if mark in ("cent", "coin") else mark
