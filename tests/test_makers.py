"""Point [18], and [2] where it touches onepurse.makers."""

import itertools
import unittest

from onepurse.boards import board_of
from onepurse.errors import BadSize, Full, Unlike
from onepurse.machines import Machine
from onepurse.makers import bare, beside, cheap, pieces, trimmed, turned, within
from onepurse.prices import price
from tests.samples import HUGE, all_of, loop, made_by_chance, many_machines, ring, slow_price, small, words_of


def some_machines(letters="ab"):
    """Machines of one to four rooms."""
    told = [Machine(1, letters), Machine(2, letters, firsts=[]), Machine(3, letters, lasts=[]), loop("cent", letters)]
    return told + many_machines(30, most_rooms=4, letters=letters, most_arrows=8)


def all_kinds():
    return [*some_machines(), *some_machines("abc")[::3], *some_machines("a")[::3]]


def no_room_left(letters):
    return (1, letters, [], [], [])


def lesser(one, other):
    return min([each for each in (one, other) if each is not None], default=None)


def dense(rooms, arrows):
    """A machine of so many rooms and arrows."""
    every = itertools.product(range(rooms), "ab", ("cent", "coin", "keep"), range(rooms))
    return Machine(rooms, "ab", list(itertools.islice(every, arrows)))


def slow_reached(starts, arrows):
    found = set(starts)
    for turn in range(70):
        found |= {arrow[3] for arrow in arrows if arrow[0] in found}
    return found


class Turned(unittest.TestCase):
    def test_each_arrow_leads_back(self):
        for machine in all_kinds():
            told = sorted((end, letter, deed, start) for start, letter, deed, end in machine.arrows())
            self.assertEqual(all_of(turned(machine)),
                             (machine.rooms(), machine.letters(), told, machine.lasts(), machine.firsts()))
            self.assertEqual(turned(turned(machine)), machine)

    def test_prices_of_words_turned_about(self):
        for machine in all_kinds():
            back = turned(machine)
            for word in words_of(machine.letters(), 4):
                self.assertEqual(price(back, word[::-1]), slow_price(machine, word))

    def test_full_machines(self):
        machine = dense(8, 40)
        self.assertEqual((turned(machine).rooms(), len(turned(machine))), (8, 40))


class Beside(unittest.TestCase):
    def test_rooms_are_numbered_on(self):
        one = Machine(2, "ab", [(0, "a", "cent", 1)], firsts=[0], lasts=[1])
        other = Machine(2, "ab", [(0, "a", "cent", 1), (1, "b", "fill", 0)], firsts=[1], lasts=[0, 1])
        arrows = [(0, "a", "cent", 1), (2, "a", "cent", 3), (3, "b", "fill", 2)]
        self.assertEqual(all_of(beside(one, other)), (4, "ab", arrows, [0, 3], [1, 2, 3]))
        self.assertEqual(all_of(beside(other, one)),
                         (4, "ab", [(0, "a", "cent", 1), (1, "b", "fill", 0), (2, "a", "cent", 3)], [1, 2], [0, 1, 3]))

    def test_prices(self):
        for letters in ("ab", "abc"):
            machines = some_machines(letters)
            for one, other in zip(machines, machines[5:] + machines[:5]):
                both = beside(one, other)
                self.assertEqual(both.rooms(), one.rooms() + other.rooms())
                self.assertEqual(len(both), len(one) + len(other))
                for word in words_of(letters, 3):
                    self.assertEqual(price(both, word), lesser(slow_price(one, word), slow_price(other, word)))

    def test_unlike(self):
        for one, other in itertools.permutations(("a", "b", "ab", "ac", "abc"), 2):
            with self.assertRaises(Unlike):
                beside(Machine(1, one), Machine(1, other))
            with self.assertRaises(Unlike):
                beside(Machine(8, one), Machine(8, other))

    def test_full(self):
        for one, other in ((1, 8), (8, 1), (5, 4), (8, 8)):
            with self.assertRaises(Full):
                beside(Machine(one, "ab"), Machine(other, "ab"))
        for one, other in ((1, 7), (7, 1), (4, 4)):
            self.assertEqual(beside(Machine(one, "ab"), Machine(other, "ab")).rooms(), 8)
        self.assertEqual(len(beside(dense(4, 20), dense(4, 20))), 40)
        for one, other in ((20, 21), (40, 1), (1, 40)):
            with self.assertRaises(Full):
                beside(dense(4, one), dense(4, other))

    def test_a_machine_beside_itself(self):
        machine = small()
        both = beside(machine, machine)
        self.assertEqual((both.rooms(), len(both)), (6, 18))
        self.assertEqual(machine, small())


class Within(unittest.TestCase):
    def test_told_one(self):
        machine = Machine(2, "ab", [(0, "a", "cent", 1), (1, "a", "coin", 0), (0, "b", "fill", 0)], lasts=[1])
        sieve = Machine(2, "ab", [(0, "a", "brim", 1), (0, "a", "cent", 1), (1, "a", "keep", 0), (1, "b", "keep", 1)],
                        lasts=[0, 1])
        # (0, 0), (1, 1) are come to by the letter a, and none by the letter b.
        self.assertEqual(all_of(within(machine, sieve)),
                         (2, "ab", [(0, "a", "cent", 1), (1, "a", "coin", 0)], [0], [1]))

    def test_rooms_rise_as_pairs(self):
        for machine, sieve in zip(some_machines(), some_machines()[7:]):
            arrows = {((one[0], other[0]), one[1], one[2], (one[3], other[3]))
                      for one in machine.arrows() for other in sieve.arrows() if one[1] == other[1]}
            firsts = list(itertools.product(machine.firsts(), sieve.firsts()))
            rooms = sorted(slow_reached(firsts, arrows))
            told = sorted((rooms.index(one), letter, deed, rooms.index(other)) for one, letter, deed, other in arrows
                          if one in rooms)
            if not rooms:
                self.assertEqual(all_of(within(machine, sieve)), no_room_left("ab"))
            elif len(rooms) > 8 or len(told) > 40:
                self.assertRaises(Full, within, machine, sieve)
            else:
                lasts = [at for at, (one, other) in enumerate(rooms) if one in machine.lasts() and other in sieve.lasts()]
                self.assertEqual(all_of(within(machine, sieve)),
                                 (len(rooms), "ab", told, sorted(rooms.index(pair) for pair in firsts), lasts))

    def test_prices_stay_on_just_what_the_sieve_lets_by(self):
        some = 0
        for letters in ("ab", "abc"):
            machines = some_machines(letters)
            for machine, sieve in itertools.product(machines[4::2], machines[4::3]):
                try:
                    made = within(machine, sieve)
                except Full:
                    continue
                for word in words_of(letters, 3):
                    told = slow_price(machine, word) if slow_price(sieve, word) is not None else None
                    self.assertEqual(price(made, word), told)
                    some += told is not None and told > 0
        self.assertGreater(some, 50)

    def test_unlike_and_full(self):
        for one, other in itertools.permutations(("a", "b", "ab", "abc"), 2):
            with self.assertRaises(Unlike):
                within(Machine(8, one), Machine(8, other))
        self.assertEqual(within(ring(2), ring(4)).rooms(), 4)
        self.assertEqual(within(ring(8), ring(8)).rooms(), 8)
        self.assertEqual(within(ring(2), Machine(4, "a", ring(4).arrows(), firsts=[0, 1])).rooms(), 8)
        for one, other in ((3, 5), (8, 7), (3, 4)):
            with self.assertRaises(Full):
                within(ring(one), ring(other))
        # Nine pairs of first rooms, all of them rooms; eight are not too many.
        with self.assertRaises(Full):
            within(Machine(3, "a", firsts=[0, 1, 2]), Machine(3, "a", firsts=[0, 1, 2]))
        self.assertEqual(within(Machine(4, "a", firsts=range(4)), Machine(2, "a", firsts=[0, 1])).rooms(), 8)

    def test_full_by_arrows(self):
        deeds = [(0, letter, deed, 0) for letter in "abc" for deed in ("cent", "coin", "fill", "keep", "brim")]
        one = Machine(1, "abc", deeds)
        two = Machine(2, "abc", [(start, letter, "keep", end) for start in (0, 1) for letter in "abc" for end in (0, 1)])
        self.assertEqual(len(within(one, one)), 15)
        with self.assertRaises(Full):
            within(one, two)
        self.assertEqual(len(within(Machine(1, "abc", deeds[:10]), two)), 40)
        with self.assertRaises(Full):
            within(Machine(1, "abc", deeds[:11]), two)

    def test_no_room_left(self):
        for one, other in ((Machine(3, "ab", firsts=[]), small()), (small(), Machine(3, "ab", firsts=[]))):
            self.assertEqual(all_of(within(one, other)), no_room_left("ab"))


class BareAndTrimmed(unittest.TestCase):
    def test_bare(self):
        arrows = [(0, "a", "cent", 1), (0, "a", "coin", 1), (0, "b", "brim", 1), (1, "a", "keep", 1)]
        machine = Machine(2, "ab", arrows, firsts=[1], lasts=[0, 1])
        told = [(0, "a", "keep", 1), (0, "b", "keep", 1), (1, "a", "keep", 1)]
        self.assertEqual(all_of(bare(machine)), (2, "ab", told, [1], [0, 1]))

    def test_bare_prices(self):
        for machine in all_kinds():
            made = bare(machine)
            self.assertTrue(all(arrow[2] == "keep" for arrow in made.arrows()))
            self.assertEqual((made.rooms(), made.firsts(), made.lasts()),
                             (machine.rooms(), machine.firsts(), machine.lasts()))
            for word in words_of(machine.letters(), 3):
                self.assertEqual(price(made, word), None if slow_price(machine, word) is None else 0)

    def test_trimmed(self):
        arrows = [(0, "a", "cent", 2), (2, "a", "coin", 4), (2, "b", "fill", 3), (1, "a", "keep", 4), (4, "b", "brim", 2),
                  (3, "a", "keep", 3)]
        machine = Machine(5, "ab", arrows, firsts=[0, 3], lasts=[1, 4])
        # 1 is not come to, and from 3 no last room is.
        told = [(0, "a", "cent", 1), (1, "a", "coin", 2), (2, "b", "brim", 1)]
        self.assertEqual(all_of(trimmed(machine)), (3, "ab", told, [0], [2]))

    def test_trimmed_by_definition(self):
        for machine in all_kinds() + [made_by_chance(seed, 8, "ab", 12) for seed in range(20)]:
            back = [(end, letter, deed, start) for start, letter, deed, end in machine.arrows()]
            rooms = sorted(slow_reached(machine.firsts(), machine.arrows()) & slow_reached(machine.lasts(), back))
            made = trimmed(machine)
            if not rooms:
                self.assertEqual(all_of(made), no_room_left(machine.letters()))
                continue
            told = sorted((rooms.index(start), letter, deed, rooms.index(end))
                          for start, letter, deed, end in machine.arrows() if start in rooms and end in rooms)
            self.assertEqual(all_of(made), (
                len(rooms), machine.letters(), told, [rooms.index(room) for room in machine.firsts() if room in rooms],
                [rooms.index(room) for room in machine.lasts() if room in rooms]))
            self.assertEqual(trimmed(made), made)

    def test_trimmed_prices(self):
        for machine in all_kinds():
            made = trimmed(machine)
            for word in words_of(machine.letters(), 3):
                self.assertEqual(price(made, word), slow_price(machine, word))

    def test_no_room_left(self):
        for machine in (Machine(8, "abc", firsts=[]), Machine(2, "abc", firsts=[0], lasts=[1]),
                        Machine(2, "abc", [(1, "a", "keep", 0)], firsts=[0], lasts=[1]), Machine(3, "abc", lasts=[])):
            self.assertEqual(all_of(trimmed(machine)), no_room_left("abc"))
        self.assertEqual(trimmed(Machine(1, "abc", firsts=[], lasts=[])), Machine(1, "abc", firsts=[], lasts=[]))

    def test_full_machines(self):
        machine = Machine(5, "ab", dense(5, 40).arrows(), lasts=range(5))
        self.assertEqual((bare(machine).rooms(), len(bare(machine))), (5, 15))
        self.assertEqual(trimmed(machine), machine)


class Cheap(unittest.TestCase):
    def test_told_ones(self):
        self.assertEqual(all_of(cheap(loop("cent"), 2)),
                         (3, "a", [(0, "a", "keep", 1), (1, "a", "keep", 2)], [0], [0, 1, 2]))
        self.assertEqual(all_of(cheap(loop("cent"), 0)), (1, "a", [], [0], [0]))
        self.assertEqual(all_of(cheap(loop("fill", "ab"), 12)), (1, "ab", [(0, "a", "keep", 0)], [0], [0]))
        machine = Machine(3, "ab", [(0, "b", "cent", 2), (0, "a", "coin", 1), (1, "b", "keep", 2)], lasts=[2])
        self.assertEqual(all_of(cheap(machine, 1)),
                         (4, "ab", [(0, "a", "keep", 1), (0, "b", "keep", 2), (1, "b", "keep", 3)], [0], [2, 3]))

    def test_by_definition(self):
        sizes = {True: 0, False: 0}
        for machine, size in itertools.product(all_kinds(), (0, 1, 2)):
            boards = []
            for word in words_of(machine.letters(), 7 if len(machine.letters()) < 3 else 5):
                board = board_of(machine, word, size=size)
                if board and board not in boards:
                    boards.append(board)
            try:
                made = cheap(machine, size)
            except Full:
                self.assertGreater(len(boards), 6)
                sizes[True] += 1
                continue
            sizes[False] += 1
            if not machine.firsts():
                self.assertEqual(all_of(made), no_room_left(machine.letters()))
                continue
            self.assertEqual(made.rooms(), len(boards))
            self.assertEqual((made.firsts(), made.letters()), ([0], machine.letters()))
            for word in words_of(machine.letters(), 3):
                told = slow_price(machine, word)
                self.assertEqual(price(made, word), 0 if told is not None and told <= size else None)
                board = board_of(machine, word, size=size)
                leads = [0]
                for letter in word:
                    leads = [end for start in leads for deed, end in made.steps(start, letter)]
                self.assertEqual(leads, [boards.index(board)] if board else [])
        self.assertGreater(sizes[False], 60)

    def test_full(self):
        self.assertEqual(cheap(loop("cent"), 7).rooms(), 8)
        for size in (8, 9, 12):
            for deed in ("cent", "coin"):
                with self.assertRaises(Full):
                    cheap(loop(deed), size)
        self.assertEqual(cheap(ring(8, "keep"), 12).rooms(), 8)
        with self.assertRaises(Full):
            cheap(small(), 12)

    def test_sizes(self):
        for size in (-1, 13, HUGE, -HUGE):
            for machine in (loop("keep"), loop("cent"), Machine(1, "a", firsts=[])):
                with self.assertRaises(BadSize, msg=size):
                    cheap(machine, size)
        for size in (0, 12):
            self.assertEqual(cheap(loop("keep"), size), loop("keep"))

    def test_without_first_rooms(self):
        for size in (0, 5, 12):
            self.assertEqual(all_of(cheap(Machine(4, "abc", firsts=[]), size)), no_room_left("abc"))
        self.assertEqual(all_of(cheap(Machine(4, "abc", firsts=[2]), 0)), (1, "abc", [], [0], []))


def fewest(machine, word):
    """The fewest words of a machine, each with a letter at least, whose row a word is; None where there are none."""
    found = {0: 0}
    for end in range(1, len(word) + 1):
        counts = [found[start] + 1 for start in range(end)
                  if start in found and slow_price(machine, word[start:end]) is not None]
        if counts:
            found[end] = min(counts)
    return found.get(len(word))


class Pieces(unittest.TestCase):
    def test_told_one(self):
        machine = Machine(2, "ab", [(0, "a", "coin", 1), (1, "b", "fill", 1), (0, "a", "brim", 1)], lasts=[1])
        told = [(0, "a", "keep", 1), (0, "a", "keep", 2), (1, "b", "keep", 1), (1, "b", "keep", 2), (2, "a", "cent", 1),
                (2, "a", "cent", 2)]
        self.assertEqual(all_of(pieces(machine)), (3, "ab", told, [2], [2]))
        self.assertEqual(all_of(pieces(Machine(2, "abc", firsts=[], lasts=[]))), (3, "abc", [], [2], [2]))

    def test_fewest_words(self):
        dear = 0
        for machine in all_kinds():
            made = pieces(machine)
            self.assertEqual(made.rooms(), machine.rooms() + 1)
            self.assertEqual((made.firsts(), made.lasts()), ([machine.rooms()], [machine.rooms()]))
            for word in words_of(machine.letters(), 4):
                told = fewest(machine, word)
                self.assertEqual(price(made, word), told, (all_of(machine), word))
                dear += told is not None and told > 1
        self.assertGreater(dear, 100)

    def test_full(self):
        self.assertEqual(pieces(Machine(7, "ab")).rooms(), 8)
        with self.assertRaises(Full):
            pieces(Machine(8, "ab"))

    def test_full_by_arrows(self):
        # The first twelve arrows lead to the last room, so that each of them is there twice.
        def star(arrows):
            every = [(start, letter, "keep", end) for end in range(7) for start in range(1, 7) for letter in "ab"]
            return Machine(7, "ab", every[:arrows], firsts=[], lasts=[0])

        self.assertEqual(len(pieces(star(12))), 24)
        self.assertEqual(len(pieces(star(28))), 40)
        with self.assertRaises(Full):
            pieces(star(29))
        with self.assertRaises(Full):
            pieces(star(40))

    def test_arrows_that_are_alike_then(self):
        machine = Machine(1, "a", [(0, "a", deed, 0) for deed in ("cent", "coin", "keep", "fill", "brim")])
        told = [(0, "a", "keep", 0), (0, "a", "keep", 1), (1, "a", "cent", 0), (1, "a", "cent", 1)]
        self.assertEqual(all_of(pieces(machine)), (2, "a", told, [1], [1]))


class Calls(unittest.TestCase):
    def test_by_names(self):
        machine = small()
        self.assertEqual(turned(machine=machine), turned(machine))
        self.assertEqual(beside(other=loop("keep", "ab"), one=machine), beside(machine, loop("keep", "ab")))
        self.assertEqual(within(sieve=loop("keep", "ab"), machine=machine), within(machine, loop("keep", "ab")))
        self.assertEqual(bare(machine=machine), bare(machine))
        self.assertEqual(trimmed(machine=machine), trimmed(machine))
        self.assertEqual(cheap(size=0, machine=machine), cheap(machine, 0))
        self.assertEqual(pieces(machine=machine), pieces(machine))

    def test_machines_stay(self):
        for machine in all_kinds():
            before = all_of(machine)
            for make in (turned, bare, trimmed, pieces, lambda each: cheap(each, 0), lambda each: within(each, each),
                         lambda each: beside(each, each)):
                try:
                    self.assertIsInstance(make(machine), Machine)
                except Full:
                    pass
                self.assertEqual(all_of(machine), before)


if __name__ == "__main__":
    unittest.main()
