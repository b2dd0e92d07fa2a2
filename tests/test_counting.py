"""Point [21], and [2] where it touches onepurse.counting."""

import collections
import itertools
import math
import unittest

from onepurse.counting import counts, dearest
from onepurse.errors import BadSize
from onepurse.machines import Machine
from onepurse.prices import price
from tests.samples import (DEEDS, HUGE, all_of, loop, made_by_chance, many_machines, nested, ring, slow_least,
                           slow_lets_with, slow_price, small, states_behind)


def some_machines():
    """Machines of one to three rooms and letters."""
    one_room = [Machine(1, "ab", [(0, "a", one, 0), (0, "b", other, 0)])
                for one, other in itertools.product(DEEDS, repeat=2)]
    told = [small(), nested(), ring(3), loop("coin", "abc"), Machine(2, "ab"), Machine(1, "a", firsts=[]),
            Machine(1, "abc", lasts=[]), Machine(2, "ab", [(0, "a", "cent", 1)], lasts=[1])]
    return (one_room + told + many_machines(60) + many_machines(30, letters="a", most_arrows=6)
            + many_machines(30, letters="abc") + many_machines(20, most_arrows=16))


def words_of_length(letters, length):
    return ["".join(signs) for signs in itertools.product(letters, repeat=length)]


def slow_both(machine, length):
    """What counts and dearest tell, by the prices of all words."""
    prices = [(slow_price(machine, word), word) for word in words_of_length(machine.letters(), length)]
    prices = [(size, word) for size, word in prices if size is not None]
    greatest = max([size for size, word in prices], default=None)
    first = next(((size, word) for size, word in prices if size == greatest), None)
    return sorted(collections.Counter(size for size, word in prices).items()), first


def slow_let_by(machine, length, size):
    """How many words of a length are let by with a size, by counting boards; with no size, by counting rooms."""
    start = slow_least([(room, 0, 0) for room in machine.firsts()])
    layer = collections.Counter({start: 1})
    for turn in range(length):
        after = collections.Counter()
        for board, letter in itertools.product(layer, machine.letters()):
            found = states_behind(machine, board, letter, HUGE if size is None else size)
            made = slow_least([(triple[0], 0, 0) for triple in found] if size is None else found)
            after[made] += layer[board]
        layer = after
    return sum(many for board, many in layer.items() if any(triple[0] in machine.lasts() for triple in board))


def slow_counts(machine, length):
    """What counts tells, by counting boards."""
    every = slow_let_by(machine, length, None)
    found, many = [], 0
    for size in itertools.count():
        if many == every:
            return found
        now = slow_let_by(machine, length, size)
        if now > many:
            found.append((size, now - many))
        many = now


class Counts(unittest.TestCase):
    def test_told_ones(self):
        machine = Machine(1, "ab", [(0, "a", "cent", 0), (0, "b", "keep", 0)])
        self.assertEqual(counts(machine, 0), [(0, 1)])
        self.assertEqual(counts(machine, 1), [(0, 1), (1, 1)])
        self.assertEqual(counts(machine, 3), [(0, 1), (1, 3), (2, 3), (3, 1)])
        self.assertEqual(counts(machine, 20), [(size, math.comb(20, size)) for size in range(21)])
        self.assertEqual(counts(loop("coin"), 20), [(20, 1)])
        self.assertEqual(counts(loop("fill", "abc"), 20), [(0, 1)])
        self.assertEqual(counts(Machine(1, "abc", [(0, letter, "keep", 0) for letter in "abc"]), 20), [(0, 3 ** 20)])

    def test_none(self):
        for length in (0, 1, 7, 20):
            self.assertEqual(counts(Machine(1, "abc", firsts=[]), length), [])
            self.assertEqual(counts(Machine(3, "ab", lasts=[]), length), [])
        self.assertEqual(counts(Machine(2, "a", firsts=[0], lasts=[1]), 0), [])
        self.assertEqual(counts(Machine(2, "a", firsts=[0, 1], lasts=[1]), 0), [(0, 1)])
        self.assertEqual(counts(ring(3), 20), [])
        self.assertEqual(counts(ring(3), 18), [(18, 1)])

    def test_all_words(self):
        several = 0
        for machine in some_machines():
            for length in range(6 if len(machine.letters()) < 3 else 5):
                if len(machine) <= 9:
                    self.assertEqual(counts(machine, length), slow_both(machine, length)[0], (all_of(machine), length))
                    several += len(counts(machine, length)) > 2
        self.assertGreater(several, 50)

    def test_long_words(self):
        several = 0
        for machine in some_machines()[::4] + [Machine(1, "a", [(0, "a", "cent", 0), (0, "a", "coin", 0)])]:
            for length in (9, 20):
                found = counts(machine, length)
                self.assertEqual(found, slow_counts(machine, length), (all_of(machine), length))
                several += len(found) > 4
        self.assertGreater(several, 10)

    def test_one_letter(self):
        for machine in many_machines(40, letters="a", most_arrows=8):
            for length in range(21):
                told = price(machine, "a" * length)
                self.assertEqual(counts(machine, length), [] if told is None else [(told, 1)])
                self.assertEqual(dearest(machine, length), None if told is None else (told, "a" * length))

    def test_they_add_up_to_the_words_that_are_let_by(self):
        for machine in some_machines() + [made_by_chance(seed, 5, "abc", 18) for seed in range(6)]:
            for length in (0, 1, 6, 20):
                found = counts(machine, length)
                self.assertEqual(sum(many for size, many in found), slow_let_by(machine, length, None))
                self.assertEqual(found, sorted(found))
                self.assertTrue(all(many > 0 for size, many in found))

    def test_greater_machines(self):
        for machine in (made_by_chance(3, 8, "abc", 30), made_by_chance(5, 6, "ab", 20)):
            whole = Machine(machine.rooms(), machine.letters(), machine.arrows(), firsts=[0], lasts=[machine.rooms() - 1])
            self.assertEqual(counts(whole, 8), slow_counts(whole, 8))

    def test_kinds_and_asked_again(self):
        machine = small()
        before = all_of(machine)
        found = counts(machine, 5)
        self.assertIsInstance(found, list)
        self.assertTrue(all(isinstance(pair, tuple) and len(pair) == 2 for pair in found))
        copy = list(found)
        found.clear()
        self.assertEqual(counts(machine, 5), copy)
        self.assertEqual(all_of(machine), before)


class Dearest(unittest.TestCase):
    def test_told_ones(self):
        machine = Machine(1, "ab", [(0, "a", "cent", 0), (0, "b", "keep", 0)])
        self.assertEqual(dearest(machine, 20), (20, "a" * 20))
        other = Machine(1, "ab", [(0, "a", "fill", 0), (0, "b", "cent", 0)])
        self.assertEqual(dearest(other, 20), (20, "b" * 20))
        self.assertEqual(dearest(other, 0), (0, ""))
        self.assertEqual(dearest(Machine(2, "ab", [(0, "b", "keep", 1), (1, "a", "keep", 0)]), 4), (0, "baba"))

    def test_the_first_one_rising(self):
        # Just one letter b, wherever it stands, costs a cent; the last place is the first word, rising.
        arrows = [(0, "a", "keep", 0), (0, "b", "cent", 1), (1, "a", "keep", 1)]
        machine = Machine(2, "ab", arrows, lasts=[0, 1])
        for length in (1, 2, 20):
            self.assertEqual(dearest(machine, length), (1, "a" * (length - 1) + "b"))
        self.assertEqual(dearest(machine, 0), (0, ""))
        sooner = Machine(2, "ab", arrows + [(1, "b", "fill", 1)], lasts=[0, 1])
        self.assertEqual(dearest(sooner, 3), (1, "aab"))

    def test_none(self):
        for length in (0, 1, 20):
            self.assertIsNone(dearest(Machine(1, "a", firsts=[]), length))
            self.assertIsNone(dearest(Machine(1, "a", lasts=[]), length))
        self.assertIsNone(dearest(Machine(1, "a"), 1))
        self.assertEqual(dearest(Machine(1, "a"), 0), (0, ""))

    def test_all_words(self):
        for machine in some_machines():
            for length in range(6 if len(machine.letters()) < 3 else 5):
                if len(machine) <= 9:
                    self.assertEqual(dearest(machine, length), slow_both(machine, length)[1], (all_of(machine), length))

    def test_long_words(self):
        for machine in some_machines()[::5]:
            for length in (11, 20):
                found, pairs = dearest(machine, length), counts(machine, length)
                if not pairs:
                    self.assertIsNone(found)
                    continue
                size, word = found
                self.assertEqual((size, len(word)), (pairs[-1][0], length))
                self.assertTrue(slow_lets_with(machine, word, size))
                self.assertFalse(size and slow_lets_with(machine, word, size - 1))

    def test_first_of_long_words(self):
        # No word ahead of it, rising, of the same beginning but one letter lower, costs as much.
        for machine in some_machines()[25::6]:
            found = dearest(machine, 9)
            if found is not None:
                size, word = found
                for at, letter in enumerate(word):
                    for lower in machine.letters()[:machine.letters().index(letter)]:
                        for rest in words_of_length(machine.letters(), min(3, 8 - at)):
                            other = (word[:at] + lower + rest + word[at + 1 + len(rest):])[:9]
                            self.assertTrue((price(machine, other) or 0) < size or price(machine, other) is None)

    def test_kind(self):
        self.assertIsInstance(dearest(small(), 4), tuple)


class Refused(unittest.TestCase):
    def test_lengths(self):
        for ask in (counts, dearest):
            for length in (-1, 21, HUGE, -HUGE):
                for machine in (small(), Machine(1, "a", firsts=[])):
                    with self.assertRaises(BadSize, msg=length):
                        ask(machine, length)
            ask(small(), 0)
            ask(small(), 20)

    def test_by_names(self):
        self.assertEqual(counts(length=2, machine=loop("cent")), [(2, 1)])
        self.assertEqual(dearest(length=2, machine=loop("cent")), (2, "aa"))


if __name__ == "__main__":
    unittest.main()
