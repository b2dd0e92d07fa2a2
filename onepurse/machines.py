"""Machines: rooms, and arrows by letters among them that bear deeds."""

from onepurse.errors import BadArrow, BadLetters, BadRoom, BadSize, BadWord, Full, NoArrow, Taken
from onepurse.marks import DEEDS
from onepurse.words import SMALL_LETTERS

MOST_ROOMS = 8
MOST_LETTERS = 3
MOST_ARROWS = 40
MOST_WORD = 60


def are_letters(text):
    """Whether a text can be the letters of a machine."""
    rising = all([one < other for one, other in zip(text, text[1:])])
    small = all([sign in SMALL_LETTERS for sign in text])
    return rising and small and 1 <= len(text) <= MOST_LETTERS


def is_letter(text, letters):
    """Whether a text is one of these letters."""
    # An empty text, or two letters, would be found in a text, too.
    return len(text) == 1 and text in letters


def is_arrow(arrow, rooms, letters):
    """Whether a tuple of four is an arrow for so many rooms and these letters."""
    start, letter, deed, end = arrow
    return 0 <= start < rooms and 0 <= end < rooms and is_letter(letter, letters) and deed in DEEDS


def need_arrows(arrows, rooms, letters):
    """Refuses a row of arrows that no machine of so many rooms and these letters has."""
    if not all([is_arrow(arrow, rooms, letters) for arrow in arrows]) or len(set(arrows)) < len(arrows):
        raise BadArrow()
    if len(arrows) > MOST_ARROWS:
        raise Full()


def need_rooms(some, rooms):
    """Refuses some rooms that are not among so many rooms, or stand there twice."""
    if not all([0 <= room < rooms for room in some]) or len(set(some)) < len(some):
        raise BadRoom()


def steps_by_start(arrows):
    """The pairs (deed, room) for each (room, letter) that arrows lead from, in the order of the arrows."""
    found = {}
    for start, letter, deed, end in arrows:
        found.setdefault((start, letter), []).append((deed, end))
    return found


def with_or_without(rooms, room):
    """The rooms with this one if it was not among them, else without it."""
    if room in rooms:
        return [other for other in rooms if other != room]
    return [*rooms, room]


class Machine:
    """Rooms numbered from 0, letters, arrows, first rooms and last rooms; none of it ever changes."""

    def __init__(self, rooms, letters, arrows=(), *, firsts=(0,), lasts=(0,)):
        if not 1 <= rooms <= MOST_ROOMS:
            raise BadSize()
        if not are_letters(letters):
            raise BadLetters()
        need_arrows(arrows, rooms, letters)
        need_rooms(firsts, rooms)
        need_rooms(lasts, rooms)
        self.room_count = rooms
        self.letter_text = letters
        self.arrow_row = tuple(sorted(arrows))
        self.first_row = tuple(sorted(firsts))
        self.last_row = tuple(sorted(lasts))
        self.step_rows = steps_by_start(self.arrow_row)

    def rooms(self):
        """How many rooms it has."""
        return self.room_count

    def letters(self):
        """Its letters, as a text."""
        return self.letter_text

    def arrows(self):
        """Its arrows, rising."""
        return list(self.arrow_row)

    def firsts(self):
        """Its first rooms, rising."""
        return list(self.first_row)

    def lasts(self):
        """Its last rooms, rising."""
        return list(self.last_row)

    def steps(self, room, letter):
        """The pairs (deed, room) of the arrows from a room by a letter, rising."""
        need_rooms([room], self.room_count)
        if not is_letter(letter, self.letter_text):
            raise BadLetters()
        return list(self.step_rows.get((room, letter), ()))

    def with_arrow(self, arrow):
        """The machine that has this arrow, too."""
        self.need_arrow(arrow)
        if arrow in self.arrow_row:
            raise Taken()
        return self.with_arrows([*self.arrow_row, arrow])

    def without_arrow(self, arrow):
        """The machine that lacks just this arrow."""
        self.need_arrow(arrow)
        if arrow not in self.arrow_row:
            raise NoArrow()
        return self.with_arrows([other for other in self.arrow_row if other != arrow])

    def turned_first(self, room):
        """The machine where the room is a first one if it was not, and is not if it was."""
        need_rooms([room], self.room_count)
        firsts = with_or_without(self.first_row, room)
        return Machine(self.room_count, self.letter_text, self.arrow_row, firsts=firsts, lasts=self.last_row)

    def turned_last(self, room):
        """The machine where the room is a last one if it was not, and is not if it was."""
        need_rooms([room], self.room_count)
        lasts = with_or_without(self.last_row, room)
        return Machine(self.room_count, self.letter_text, self.arrow_row, firsts=self.first_row, lasts=lasts)

    def lets(self, word):
        """Whether a word has a way."""
        self.need_word(word)
        rooms = self.first_row
        for letter in word:
            rooms = self.rooms_behind(rooms, letter)
        return any([room in self.last_row for room in rooms])

    def need_word(self, word):
        """Refuses a text that is no word of this machine."""
        if len(word) > MOST_WORD or not all([letter in self.letter_text for letter in word]):
            raise BadWord()

    def need_arrow(self, arrow):
        """Refuses a tuple that cannot be an arrow of this machine."""
        if not is_arrow(arrow, self.room_count, self.letter_text):
            raise BadArrow()

    def with_arrows(self, arrows):
        """The machine that has these arrows instead of its own."""
        return Machine(self.room_count, self.letter_text, arrows, firsts=self.first_row, lasts=self.last_row)

    def rooms_behind(self, rooms, letter):
        """The rooms that a letter may lead to from some rooms, as a rising tuple."""
        found = [step[1] for room in rooms for step in self.steps(room, letter)]
        return tuple(sorted(set(found)))

    def __eq__(self, other):
        return (isinstance(other, Machine) and self.room_count == other.room_count
                and self.letter_text == other.letter_text and self.arrow_row == other.arrow_row
                and self.first_row == other.first_row and self.last_row == other.last_row)

    def __len__(self):
        return len(self.arrow_row)

    def __repr__(self):
        return f"Machine({self.room_count} rooms, {self.letter_text}, {len(self.arrow_row)} arrows)"
