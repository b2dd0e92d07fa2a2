"""What a shop has, and the deeds that change it."""

from onepurse.errors import BadDeed, BadName, BadSize, BadWord, Full, InUse, NoName, NothingLeft, NoTraveller, Taken
from onepurse.machines import MOST_WORD, Machine, is_letter
from onepurse.makers import beside, cheap, pieces, trimmed, turned, within
from onepurse.tongue import machine_of, read_tolls
from onepurse.words import SMALL_LETTERS

MOST_KEPT = 6
MOST_NAME = 8
MOST_PURSE = 20


class Stock:
    """Machines by names, and travellers by names, each a tuple (machine's name, size, word)."""

    def __init__(self, held, guests):
        self.held = held
        self.guests = guests

    def copied(self):
        """Another one with all of it."""
        return Stock(dict(self.held), dict(self.guests))


def need_free(kept, name):
    """Refuses a name under which nothing more can be kept."""
    if not 1 <= len(name) <= MOST_NAME or not all([sign in SMALL_LETTERS for sign in name]):
        raise BadName()
    if name in kept:
        raise Taken()
    if len(kept) >= MOST_KEPT:
        raise Full()


def machine_in(stock, name):
    """The machine of a name."""
    if name not in stock.held:
        raise NoName()
    return stock.held[name]


def traveller_in(stock, name):
    """The traveller of a name."""
    if name not in stock.guests:
        raise NoTraveller()
    return stock.guests[name]


def add_plain(stock, name, rooms, letters):
    """A machine without arrows."""
    need_free(stock.held, name)
    stock.held[name] = Machine(rooms, letters)


def add_tolls(stock, name, text, letters):
    """The machine of tolls."""
    need_free(stock.held, name)
    stock.held[name] = machine_of(read_tolls(text), letters)


def add_turned(stock, name, other):
    """A machine turned."""
    need_free(stock.held, name)
    stock.held[name] = turned(machine_in(stock, other))


def add_trimmed(stock, name, other):
    """A machine trimmed."""
    need_free(stock.held, name)
    stock.held[name] = trimmed(machine_in(stock, other))


def add_pieces(stock, name, other):
    """The pieces of a machine."""
    need_free(stock.held, name)
    stock.held[name] = pieces(machine_in(stock, other))


def add_beside(stock, name, one, other):
    """Two machines beside one another."""
    need_free(stock.held, name)
    stock.held[name] = beside(machine_in(stock, one), machine_in(stock, other))


def add_within(stock, name, one, other):
    """A machine within a sieve."""
    need_free(stock.held, name)
    stock.held[name] = within(machine_in(stock, one), machine_in(stock, other))


def add_cheap(stock, name, other, size):
    """A machine, cheap with a size."""
    need_free(stock.held, name)
    stock.held[name] = cheap(machine_in(stock, other), size)


def drop(stock, name):
    """Takes away a machine that no traveller is in."""
    machine_in(stock, name)
    if any([guest[0] == name for guest in stock.guests.values()]):
        raise InUse()
    del stock.held[name]


def add_arrow(stock, name, start, letter, deed, end):
    """An arrow more."""
    stock.held[name] = machine_in(stock, name).with_arrow((start, letter, deed, end))


def strike_arrow(stock, name, start, letter, deed, end):
    """An arrow fewer."""
    stock.held[name] = machine_in(stock, name).without_arrow((start, letter, deed, end))


def turn_first(stock, name, room):
    """A room becomes a first one, or ceases to be."""
    stock.held[name] = machine_in(stock, name).turned_first(room)


def turn_last(stock, name, room):
    """A room becomes a last one, or ceases to be."""
    stock.held[name] = machine_in(stock, name).turned_last(room)


def go(stock, traveller, name, size):
    """A traveller comes."""
    need_free(stock.guests, traveller)
    machine_in(stock, name)
    if not 0 <= size <= MOST_PURSE:
        raise BadSize()
    stock.guests[traveller] = (name, size, "")


def step(stock, traveller, letter):
    """A traveller's word gets a letter more."""
    name, size, word = traveller_in(stock, traveller)
    if not is_letter(letter, machine_in(stock, name).letters()):
        raise BadWord()
    if len(word) >= MOST_WORD:
        raise Full()
    stock.guests[traveller] = (name, size, word + letter)


def back(stock, traveller):
    """A traveller's last letter goes."""
    name, size, word = traveller_in(stock, traveller)
    if word == "":
        raise NothingLeft()
    stock.guests[traveller] = (name, size, word[:-1])


def leave(stock, traveller):
    """A traveller goes."""
    traveller_in(stock, traveller)
    del stock.guests[traveller]


ACTIONS = {
    "machine": add_plain, "tolls": add_tolls, "turned": add_turned, "trimmed": add_trimmed, "pieces": add_pieces,
    "beside": add_beside, "within": add_within, "cheap": add_cheap, "drop": drop, "arrow": add_arrow,
    "strike": strike_arrow, "first": turn_first, "last": turn_last, "go": go, "step": step, "back": back,
    "leave": leave,
}

# How many things the tuple of each deed has; a many is made of others, so it has no action of its own.
LENGTHS = {
    "machine": 4, "tolls": 4, "turned": 3, "trimmed": 3, "pieces": 3, "beside": 4, "within": 4, "cheap": 4, "drop": 2,
    "arrow": 6, "strike": 6, "first": 3, "last": 3, "go": 4, "step": 3, "back": 2, "leave": 2, "many": 2,
}


def need_form(deed):
    """Refuses a tuple that is no deed."""
    if len(deed) == 0 or len(deed) != LENGTHS.get(deed[0], 0):
        raise BadDeed()


def do_one(stock, deed):
    """Does a deed but a many."""
    need_form(deed)
    if deed[0] == "many":
        raise BadDeed()
    action = ACTIONS[deed[0]]
    things = deed[1:]
    action(stock, *things)


def stock_behind(stock, deed):
    """The stock behind a deed; the one ahead of it stays as it is, so that what is refused changes nothing."""
    need_form(deed)
    after = stock.copied()
    parts = deed[1] if deed[0] == "many" else (deed,)
    for part in parts:
        do_one(after, part)
    return after
