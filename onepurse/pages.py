"""Pages: shops as texts, and read back."""

from onepurse.deeds import Stock, go, machine_in, need_free
from onepurse.errors import BadPage, Missing, PurseError
from onepurse.machines import Machine
from onepurse.plain import plain_number
from onepurse.shop import Shop

# How many words the row of each kind has.
WIDTHS = {"machine": 6, "arrow": 5, "traveller": 5}


def rooms_text(rooms):
    """Rooms as they are written."""
    return ",".join([str(room) for room in rooms]) if rooms else "-"


def machine_rows(name, machine):
    """The rows of a machine and its arrows."""
    firsts, lasts = rooms_text(machine.firsts()), rooms_text(machine.lasts())
    rows = [f"machine {name} {machine.rooms()} {machine.letters()} {firsts} {lasts}"]
    return rows + [f"arrow {start} {letter} {deed} {end}" for start, letter, deed, end in machine.arrows()]


def traveller_row(name, told):
    """The row of a traveller."""
    place, size, word = told
    return f"traveller {name} {place} {size} {word if word else '-'}"


def page(shop):
    """The page of a shop."""
    rows = []
    for name in shop.machines():
        rows.extend(machine_rows(name, shop.machine(name)))
    for name in shop.travellers():
        rows.append(traveller_row(name, shop.traveller(name)))
    return "".join([row + "\n" for row in rows])


def read_rooms(text):
    """The rooms that a text writes, or None."""
    if text == "-":
        return []
    rooms = [plain_number(part) for part in text.split(",")]
    if None in rooms or not all([one < other for one, other in zip(rooms, rooms[1:])]):
        return None
    return rooms


def comes_next(kept, name):
    """Whether a name comes behind all that are kept so far."""
    return all([other < name for other in kept])


def take_machine(stock, words):
    """Takes in the row of a machine; tells whether it can stand."""
    name, count, letters, firsts, lasts = words
    rooms, starts, ends = plain_number(count), read_rooms(firsts), read_rooms(lasts)
    if rooms is None or starts is None or ends is None or stock.guests or not comes_next(stock.held, name):
        return False
    need_free(stock.held, name)
    stock.held[name] = Machine(rooms, letters, firsts=starts, lasts=ends)
    return True


def take_arrow(stock, words):
    """Takes in the row of an arrow of the last machine; tells whether it can stand."""
    start, end = plain_number(words[0]), plain_number(words[3])
    if start is None or end is None or stock.guests or not stock.held:
        return False
    name = list(stock.held)[-1]
    machine = stock.held[name]
    arrow = (start, words[1], words[2], end)
    if not all([other < arrow for other in machine.arrows()]):
        return False
    stock.held[name] = machine.with_arrow(arrow)
    return True


def take_traveller(stock, words):
    """Takes in the row of a traveller; tells whether it can stand."""
    name, place, size, written = words
    number = plain_number(size)
    if number is None or written == "" or not comes_next(stock.guests, name):
        return False
    word = "" if written == "-" else written
    go(stock, name, place, number)
    machine_in(stock, place).need_word(word)
    stock.guests[name] = (place, number, word)
    return True


def take_row(stock, row):
    """Takes in a row; tells whether it can stand behind those ahead."""
    words = row.split(" ")
    kind = words[0]
    if len(words) != WIDTHS.get(kind, 0):
        return False
    if kind == "machine":
        return take_machine(stock, words[1:])
    if kind == "arrow":
        return take_arrow(stock, words[1:])
    return take_traveller(stock, words[1:])


def can_stand(stock, row):
    """Takes in a row; tells whether it can stand, and what it tells is not refused."""
    try:
        return take_row(stock, row)
    except (PurseError, Missing):
        return False


def shop_of(text):
    """The shop of a page."""
    stock = Stock({}, {})
    rows = text.split("\n")
    for at, row in enumerate(rows[:-1]):
        if not can_stand(stock, row):
            raise BadPage(at)
    if rows[-1] != "":
        raise BadPage(len(rows) - 1)
    shop = Shop()
    shop.stock = stock
    return shop
