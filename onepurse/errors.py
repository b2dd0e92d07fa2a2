"""All refusals of the program.

A class cannot be asked for its name here, so each one says its field `word` itself.
"""


class PurseError(ValueError):
    """What is handed in cannot be taken."""


class Missing(LookupError):
    """What is asked for is not there."""


class BadMark(PurseError):
    """A text that is no mark, or no deed where a deed is due."""

    def __init__(self):
        self.word = "badmark"


class BadLetters(PurseError):
    """Letters that no machine can have, or that this one lacks."""

    def __init__(self):
        self.word = "badletters"


class BadRoom(PurseError):
    """A room that the machine has not, or one told twice."""

    def __init__(self):
        self.word = "badroom"


class BadArrow(PurseError):
    """An arrow that cannot be one of the machine, or one told twice."""

    def __init__(self):
        self.word = "badarrow"


class BadWord(PurseError):
    """A word with another letter than the machine's, or one that is too long."""

    def __init__(self):
        self.word = "badword"


class BadSize(PurseError):
    """A number beyond its bounds."""

    def __init__(self):
        self.word = "badsize"


class BadPattern(PurseError):
    """A text that is no pattern."""

    def __init__(self):
        self.word = "badpattern"


class BadTable(PurseError):
    """A table that is not steady."""

    def __init__(self):
        self.word = "badtable"


class BadTree(PurseError):
    """A tuple that is no tree."""

    def __init__(self):
        self.word = "badtree"


class BadText(PurseError):
    """A text that is no tolls; `at` is the place of the first sign that cannot stand."""

    def __init__(self, at):
        self.word = "badtext"
        self.at = at


class BadName(PurseError):
    """A text that is no name."""

    def __init__(self):
        self.word = "badname"


class BadDeed(PurseError):
    """A tuple that is no deed of a shop."""

    def __init__(self):
        self.word = "baddeed"


class BadPage(PurseError):
    """A text that is no page; `row` is the number of the first row that cannot stand."""

    def __init__(self, row):
        self.word = "badpage"
        self.row = row


class Taken(PurseError):
    """What would be added is there already."""

    def __init__(self):
        self.word = "taken"


class Full(PurseError):
    """There is no place for one more."""

    def __init__(self):
        self.word = "full"


class Unlike(PurseError):
    """Two things that do not fit together."""

    def __init__(self):
        self.word = "unlike"


class NotDear(PurseError):
    """A pattern whose words do not get dearer than any number."""

    def __init__(self):
        self.word = "notdear"


class InUse(PurseError):
    """A machine that a traveller is in."""

    def __init__(self):
        self.word = "inuse"


class TooWide(PurseError):
    """A search or an answer beyond its bound, which is `most`."""

    def __init__(self, most):
        self.word = "toowide"
        self.most = most


class NoArrow(Missing):
    """The machine has no such arrow."""

    def __init__(self):
        self.word = "noarrow"


class NoName(Missing):
    """The shop has no machine of this name."""

    def __init__(self):
        self.word = "noname"


class NoTraveller(Missing):
    """The shop has no traveller of this name."""

    def __init__(self):
        self.word = "notraveller"


class NothingLeft(IndexError):
    """There is nothing to take back, or to do again."""

    def __init__(self):
        self.word = "nothingleft"
