"""A shop of machines in which travellers go about."""

from onepurse.boards import board_of
from onepurse.deeds import Stock, machine_in, stock_behind, traveller_in
from onepurse.errors import NothingLeft
from onepurse.verdicts import verdict


def key_of(machine):
    """What is the same for equal machines only."""
    rows = (tuple(machine.arrows()), tuple(machine.firsts()), tuple(machine.lasts()))
    return (machine.rooms(), machine.letters(), rows)


def told_anew(told):
    """A verdict with a list of its own."""
    if told[0] == "never":
        return told
    return told[:3] + (list(told[3]),)


class Shop:
    """Machines and travellers, the deeds that stand and those that can be done again, and verdicts that were told.

    No stock that stands is ever changed, only replaced, so the past and twins may share them.
    """

    def __init__(self):
        self.stock = Stock({}, {})
        # Pairs of a deed and the stock ahead of it, and pairs of a deed and the stock behind it, the next one last.
        self.past = []
        self.future = []
        self.kept = {}
        self.search_count = 0

    def do(self, deed):
        """Does a deed."""
        after = stock_behind(self.stock, deed)
        self.past.append((deed, self.stock))
        self.future = []
        self.stock = after

    def undo(self):
        """Takes back the last deed that stands; tells it."""
        if len(self.past) == 0:
            raise NothingLeft()
        deed, ahead = self.past.pop()
        self.future.append((deed, self.stock))
        self.stock = ahead
        return deed

    def redo(self):
        """Does again what was taken back last; tells it."""
        if len(self.future) == 0:
            raise NothingLeft()
        deed, after = self.future.pop()
        self.past.append((deed, self.stock))
        self.stock = after
        return deed

    def deeds(self):
        """The deeds that stand, the eldest first."""
        return [deed for deed, ahead in self.past]

    def undone(self):
        """The deeds that can be done again, the next one first."""
        return [deed for deed, after in self.future[::-1]]

    def machines(self):
        """The machines' names, rising."""
        return sorted(list(self.stock.held))

    def travellers(self):
        """The travellers' names, rising."""
        return sorted(list(self.stock.guests))

    def machine(self, name):
        """The machine of a name."""
        return machine_in(self.stock, name)

    def traveller(self, name):
        """The tuple (machine's name, size, word) of a traveller."""
        return traveller_in(self.stock, name)

    def board(self, name):
        """The board of a traveller in its machine as it stands."""
        place, size, word = traveller_in(self.stock, name)
        return board_of(machine_in(self.stock, place), word, size=size)

    def ask(self, name):
        """The verdict on a machine, searched only if none was told of an equal one."""
        asked = machine_in(self.stock, name)
        key = key_of(asked)
        if key not in self.kept:
            # Counted ahead of the search, as one that is refused counts, too.
            self.search_count += 1
            self.kept[key] = verdict(asked)
        return told_anew(self.kept[key])

    def searched(self):
        """How many searches there were."""
        return self.search_count

    def twin(self):
        """A shop with all of it; from then on neither changes the other."""
        other = Shop()
        other.stock = self.stock
        other.past = list(self.past)
        other.future = list(self.future)
        other.kept = {key: self.kept[key] for key in self.kept}
        other.search_count = self.search_count
        return other

    def __eq__(self, other):
        return (isinstance(other, Shop) and self.stock.held == other.stock.held
                and self.stock.guests == other.stock.guests)

    def __len__(self):
        return len(self.stock.held)

    def __repr__(self):
        return f"Shop({len(self.stock.held)} machines, {len(self.stock.guests)} travellers)"
