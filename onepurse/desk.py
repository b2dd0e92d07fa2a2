"""A desk that answers lines."""

from onepurse.deeds import LENGTHS
from onepurse.errors import Missing, NothingLeft, PurseError
from onepurse.plain import plain_number
from onepurse.prices import price
from onepurse.shop import Shop

# How many words each line has that is no deed.
WIDTHS = {"undo": 1, "redo": 1, "machines": 1, "travellers": 1, "price": 3, "ask": 2, "board": 2}

# Where numbers stand in deeds.
NUMBERS = {"machine": (2,), "cheap": (3,), "arrow": (2, 5), "strike": (2, 5), "first": (2,), "last": (2,), "go": (3,)}


def or_none(text):
    """A text, or the word for none where it is empty."""
    return text if text else "none"


def written(deed):
    """A deed as a line."""
    if deed[0] == "many":
        return f"many {len(deed[1])}"
    return " ".join([str(thing) for thing in deed])


def read_deed(words):
    """The deed of a line's words, or None where there is none."""
    kind = words[0]
    if kind == "many" or len(words) != LENGTHS.get(kind, 0):
        return None
    numbers = {at: plain_number(words[at]) for at in NUMBERS.get(kind, ())}
    if None in list(numbers.values()):
        return None
    return tuple([numbers.get(at, word) for at, word in enumerate(words)])


def told_price(shop, name, word):
    """The price of a word by a machine, as it is told."""
    found = price(shop.machine(name), "" if word == "-" else word)
    return "none" if found is None else str(found)


def told_verdict(shop, name):
    """The verdict on a machine, as it is told."""
    told = shop.ask(name)
    if told[0] == "never":
        return f"never {told[1]}"
    if told[2] is None:
        return f"enough {told[1]} none"
    return f"enough {told[1]} {told[2] if told[2] else '-'}"


def told_board(shop, name):
    """The board of a traveller, as it is told."""
    triples = [f"{room}:{lesser}:{greater}" for room, lesser, greater in shop.board(name)]
    return or_none(" ".join(triples))


def answer(shop, words):
    """The answer to a line of some words that is no deed."""
    kind = words[0]
    if len(words) != WIDTHS.get(kind, 0):
        return "what"
    if kind == "undo":
        return written(shop.undo())
    if kind == "redo":
        return written(shop.redo())
    if kind == "machines":
        return or_none(" ".join(shop.machines()))
    if kind == "travellers":
        return or_none(" ".join(shop.travellers()))
    if kind == "price":
        return told_price(shop, words[1], words[2])
    if kind == "ask":
        return told_verdict(shop, words[1])
    return told_board(shop, words[1])


class Desk:
    """A desk with a shop of its own."""

    def __init__(self, shop=None):
        self.store = Shop() if shop is None else shop.twin()

    def say(self, line):
        """The answer to a line."""
        words = line.split(" ")
        if "" in words:
            return "what"
        deed = read_deed(words)
        try:
            if deed is None:
                return answer(self.store, words)
            self.store.do(deed)
            return "done"
        except (PurseError, Missing, NothingLeft) as refusal:
            return f"no {refusal.word}"

    def shop(self):
        """A twin of its shop."""
        return self.store.twin()
