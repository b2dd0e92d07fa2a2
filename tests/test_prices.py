"""Points [8] and [10], what [6] says of ways, and [2] where it touches onepurse.prices."""

import itertools
import random
import unittest

from onepurse.boards import board_of, ends_well
from onepurse.errors import BadSize, BadWord
from onepurse.machines import Machine
from onepurse.prices import price, shut_holds, shut_rows, way, way_price
from tests.samples import (HUGE, all_of, long_price, loop, made_by_chance, many_machines, slow_peak, slow_price, small,
                           spent, words_of)

BAD_WORDS = ("c", "abc", "A", " ", "a b", "\n", "a" * 61, "ab" * 10000)


def slow_is_way(machine, word, arrows):
    """Whether arrows are a way of a word, as [6] says it."""
    if word == "":
        return len(arrows) == 0 and any(room in machine.lasts() for room in machine.firsts())
    if len(arrows) != len(word) or arrows[0][0] not in machine.firsts() or arrows[-1][3] not in machine.lasts():
        return False
    return (all(arrow in machine.arrows() for arrow in arrows)
            and all(arrow[1] == letter for arrow, letter in zip(arrows, word))
            and all(one[3] == other[0] for one, other in zip(arrows, arrows[1:])))


def slow_way_price(machine, word, arrows):
    return slow_peak([arrow[2] for arrow in arrows]) if slow_is_way(machine, word, arrows) else None


def slow_holds(machine, word, rows, size):
    """Whether rows hold, as [10] says it."""
    if len(rows) != len(word) + 1:
        return False
    rows = [[tuple(triple) for triple in row] for row in rows]
    if any((room, 0, 0) not in rows[0] for room in machine.firsts()):
        return False
    for row, letter, after in zip(rows, word, rows[1:]):
        for (room, lesser, greater), (start, by, deed, end) in itertools.product(row, machine.arrows()):
            pair = spent((lesser, greater), deed)
            if (start, by) == (room, letter) and max(pair) <= size:
                if not any(other[0] == end and other[1] <= pair[0] and other[2] <= pair[1] for other in after):
                    return False
    return not any(triple[0] in machine.lasts() for triple in rows[-1])


def shut_cases(count=60, longest=4):
    """Machines, words and sizes with rows that shut them."""
    for machine in many_machines(count):
        for word, size in itertools.product(words_of("ab", longest), (0, 1, 2)):
            rows = shut_rows(machine, word, size=size)
            if rows is not None:
                yield machine, word, size, rows


def long_words(count):
    """Words of 0 to 60 letters."""
    chance = random.Random(8)
    return ["".join(chance.choices("ab", k=length)) for length in range(0, 61, 60 // count)]


class Price(unittest.TestCase):
    def test_told_ones(self):
        for number in range(61):
            self.assertEqual(price(loop("cent"), "a" * number), number)
            self.assertEqual(price(loop("coin"), "a" * number), number)
            for deed in ("keep", "fill", "brim"):
                self.assertEqual(price(loop(deed), "a" * number), 0)

    def test_purses_are_filled(self):
        arrows = [(0, "a", "cent", 0), (0, "b", "fill", 0), (0, "c", "coin", 0)]
        machine = Machine(1, "abc", arrows)
        self.assertEqual(price(machine, "aaabaab"), 3)
        self.assertEqual(price(machine, "aacaacaa"), 2)
        self.assertEqual(price(machine, "acacacb"), 3)
        self.assertEqual(price(machine, "cbcbcbcba" * 6), 24)
        brim = Machine(1, "abc", [(0, "a", "cent", 0), (0, "b", "brim", 0), (0, "c", "coin", 0)])
        self.assertEqual(price(brim, "cbcbcbcba" * 6), 1)

    def test_the_least_one_of_all_ways(self):
        # Either purse may be used for each letter, and the lesser one is filled by each coin.
        machine = Machine(1, "a", [(0, "a", "cent", 0), (0, "a", "coin", 0)])
        told = {0: 0, 1: 1, 3: 1, 4: 2, 8: 2, 9: 3, 15: 3, 16: 4, 60: 7}
        for number, size in told.items():
            self.assertEqual(price(machine, "a" * number), size)

    def test_no_way(self):
        self.assertIsNone(price(loop("cent", "ab"), "ab"))
        self.assertIsNone(price(Machine(1, "a", firsts=[]), ""))
        self.assertIsNone(price(Machine(1, "a", lasts=[]), ""))
        self.assertIsNone(price(Machine(2, "a", firsts=[0], lasts=[1]), ""))
        self.assertIsNone(price(Machine(2, "a", [(0, "a", "keep", 1)], lasts=[1]), "aa"))

    def test_as_all_ways_tell(self):
        for machine in many_machines(90):
            for word in words_of("ab", 5):
                self.assertEqual(price(machine, word), slow_price(machine, word), (all_of(machine), word))

    def test_long_words(self):
        dear = 0
        for seed in range(12):
            machine = made_by_chance(seed, 3, "ab", 12)
            for word in long_words(6):
                found = price(machine, word)
                self.assertEqual(found, long_price(machine, word), (all_of(machine), word))
                dear += found is not None and found > 2
        self.assertGreater(dear, 0)

    def test_great_machines(self):
        machine = made_by_chance(5, 8, "abc", 40)
        whole = Machine(8, "abc", machine.arrows(), firsts=list(range(8)), lasts=list(range(8)))
        for word in ("abc" * 20, "a" * 60, "aabbcc" * 9):
            self.assertEqual(price(whole, word), long_price(whole, word))

    def test_let_by_with_a_size_where_no_greater(self):
        for machine in many_machines(30):
            for word, size in itertools.product(words_of("ab", 4), range(5)):
                told = price(machine, word)
                let_by = told is not None and told <= size
                self.assertIs(ends_well(machine, board_of(machine, word, size=size)), let_by)
                self.assertIs(shut_rows(machine, word, size=size) is None, let_by)

    def test_refused(self):
        for word in BAD_WORDS:
            with self.assertRaises(BadWord, msg=word[:9]):
                price(small(), word)
        with self.assertRaises(BadWord):
            price(Machine(1, "a", firsts=[]), "ab")

    def test_by_names(self):
        self.assertEqual(price(word="aa", machine=loop("coin")), 2)


class Way(unittest.TestCase):
    def check(self, machine, word):
        told, found = price(machine, word), way(machine, word)
        if told is None:
            self.assertIsNone(found)
        else:
            self.assertIsInstance(found, list)
            self.assertTrue(all(isinstance(arrow, tuple) for arrow in found))
            self.assertTrue(slow_is_way(machine, word, found), (all_of(machine), word, found))
            self.assertEqual(slow_peak([arrow[2] for arrow in found]), told)
            self.assertEqual(way_price(machine, word, found), told)

    def test_short_words(self):
        for machine in many_machines(90):
            for word in words_of("ab", 4):
                self.check(machine, word)

    def test_long_words(self):
        for seed in range(20):
            for word in long_words(6):
                self.check(made_by_chance(seed, 4, "ab", 20), word)
        self.check(loop("cent"), "a" * 60)

    def test_word_of_no_letters(self):
        self.assertEqual(way(loop("cent"), ""), [])
        self.assertEqual(way(Machine(2, "a", firsts=[0, 1], lasts=[1]), ""), [])
        self.assertIsNone(way(Machine(2, "a", firsts=[0], lasts=[1]), ""))
        self.assertIsNone(way(Machine(2, "a", firsts=[], lasts=[1]), ""))

    def test_the_only_way(self):
        arrows = [(0, "a", "cent", 1), (1, "b", "coin", 0), (1, "b", "coin", 2)]
        machine = Machine(3, "ab", arrows, lasts=[2])
        told = [(0, "a", "cent", 1), (1, "b", "coin", 0), (0, "a", "cent", 1), (1, "b", "coin", 2)]
        self.assertEqual(way(machine, "abab"), told)
        self.assertIsNone(way(machine, "aba"))

    def test_asked_again_behind_a_change(self):
        machine = small()
        before = all_of(machine)
        found = way(machine, "abab")
        copy = list(found)
        found.reverse()
        found.pop()
        found.append(None)
        self.assertEqual(way(machine, "abab"), copy)
        empty = way(loop("cent"), "")
        empty.append(1)
        self.assertEqual(way(loop("cent"), ""), [])
        self.assertEqual(all_of(machine), before)

    def test_refused(self):
        for word in BAD_WORDS:
            with self.assertRaises(BadWord, msg=word[:9]):
                way(small(), word)

    def test_by_names(self):
        self.assertEqual(way(word="a", machine=loop("coin")), [(0, "a", "coin", 0)])


class WayPrice(unittest.TestCase):
    def test_ways_of_any_price(self):
        machine = Machine(1, "a", [(0, "a", "cent", 0), (0, "a", "coin", 0), (0, "a", "keep", 0)])
        for deeds in itertools.product(("cent", "coin", "keep"), repeat=4):
            arrows = [(0, "a", deed, 0) for deed in deeds]
            self.assertEqual(way_price(machine, "aaaa", arrows), slow_peak(deeds))
            self.assertEqual(way_price(machine, "aaaa", tuple(arrows)), slow_peak(deeds))

    def test_all_rows_of_arrows(self):
        foreign = [(0, "a", "fill", 2), (0, "a", "dear", 1), (5, "a", "keep", -1), (0, "", "keep", 0), (0, "ab", "", 1)]
        machine = small()
        for length in range(4):
            for arrows in itertools.product(machine.arrows() + foreign[:2], repeat=length):
                words = {"", "a", "b", "ab"} | {"".join(arrow[1] for arrow in arrows)}
                for word in words:
                    self.assertEqual(way_price(machine, word, arrows), slow_way_price(machine, word, arrows))
        for arrow in foreign:
            self.assertIsNone(way_price(machine, "a", [arrow]))
            self.assertIsNone(way_price(machine, "aa", [arrow, arrow]))
            self.assertIsNone(way_price(machine, "ab", [arrow]))
            self.assertIsNone(way_price(machine, "", [arrow]))

    def test_changed_ways(self):
        nones = 0
        for seed in range(12):
            machine = made_by_chance(seed, 3, "ab", 14)
            for word in long_words(6):
                arrows = way(machine, word) or []
                for at in range(len(arrows)):
                    start, letter, deed, end = arrows[at]
                    changed = [
                        arrows[:at] + arrows[at + 1:], arrows[:at] + [arrows[at]] + arrows[at:],
                        arrows[:at] + arrows[at:][::-1], arrows[:at] + [arrows[-1]] + arrows[at + 1:],
                        arrows[:at] + [(start, letter, "brim", end)] + arrows[at + 1:],
                        arrows[:at] + [(start, letter, deed, (end + 1) % 3)] + arrows[at + 1:],
                    ]
                    for others in changed:
                        told = slow_way_price(machine, word, others)
                        self.assertEqual(way_price(machine, word, others), told)
                        nones += told is None
        self.assertGreater(nones, 100)

    def test_word_of_no_letters(self):
        for arrows in ([], ()):
            self.assertEqual(way_price(loop("cent"), "", arrows), 0)
            self.assertIsNone(way_price(Machine(2, "a", firsts=[0], lasts=[1]), "", arrows))
            self.assertIsNone(way_price(loop("cent"), "a", arrows))
        self.assertIsNone(way_price(loop("cent"), "", [(0, "a", "cent", 0)]))

    def test_many_arrows(self):
        self.assertEqual(way_price(loop("cent"), "a" * 60, [(0, "a", "cent", 0)] * 60), 60)
        self.assertIsNone(way_price(loop("cent"), "a" * 60, [(0, "a", "cent", 0)] * 400))

    def test_refused(self):
        for word in BAD_WORDS:
            for arrows in ([], [(0, "a", "cent", 0)], [(9, "z", "no", 9)] * 61):
                with self.assertRaises(BadWord, msg=word[:9]):
                    way_price(small(), word, arrows)

    def test_what_is_handed_in_stays_and_by_names(self):
        machine, arrows = small(), [(0, "b", "cent", 0), (0, "a", "coin", 2)]
        before = all_of(machine)
        self.assertEqual(way_price(arrows=arrows, word="ba", machine=machine), 1)
        self.assertEqual(arrows, [(0, "b", "cent", 0), (0, "a", "coin", 2)])
        self.assertEqual(all_of(machine), before)


class ShutRows(unittest.TestCase):
    def test_none_just_where_let_by(self):
        for machine in many_machines(60):
            for word, size in itertools.product(words_of("ab", 4), (0, 1, 2, 4)):
                told = slow_price(machine, word)
                rows = shut_rows(machine, word, size=size)
                if told is not None and told <= size:
                    self.assertIsNone(rows)
                else:
                    self.assertIsInstance(rows, list)
                    self.assertEqual(len(rows), len(word) + 1)
                    self.assertTrue(slow_holds(machine, word, rows, size), (all_of(machine), word, size, rows))
                    self.assertIs(shut_holds(machine, word, rows, size=size), True)

    def test_they_are_boards(self):
        for machine, word, size, rows in shut_cases(30, 3):
            for row in rows:
                self.assertIsInstance(row, tuple)
                self.assertTrue(all(isinstance(triple, tuple) for triple in row))

    def test_long_words(self):
        for size in (0, 30, 59):
            rows = shut_rows(loop("cent"), "a" * 60, size=size)
            self.assertEqual(len(rows), 61)
            self.assertTrue(slow_holds(loop("cent"), "a" * 60, rows, size))
        self.assertIsNone(shut_rows(loop("cent"), "a" * 60, size=60))
        self.assertIsNone(shut_rows(loop("cent"), "a" * 60, size=HUGE))

    def test_word_of_no_letters(self):
        self.assertIsNone(shut_rows(loop("cent"), "", size=0))
        machine = Machine(2, "a", firsts=[1], lasts=[0])
        rows = shut_rows(machine, "", size=3)
        self.assertEqual(len(rows), 1)
        self.assertIs(shut_holds(machine, "", rows, size=3), True)

    def test_changed_and_asked_for_again(self):
        machine = small()
        before = all_of(machine)
        rows = shut_rows(machine, "bb", size=0)
        copy = list(rows)
        rows.reverse()
        rows[0] = None
        rows.append(())
        self.assertEqual(shut_rows(machine, "bb", size=0), copy)
        self.assertEqual(all_of(machine), before)

    def test_refused(self):
        for word in BAD_WORDS:
            for size in (0, -1, -HUGE):
                with self.assertRaises(BadWord, msg=(word[:9], size)):
                    shut_rows(small(), word, size=size)
        for word in ("", "a", "ab" * 30):
            for size in (-1, -HUGE):
                with self.assertRaises(BadSize, msg=(word, size)):
                    shut_rows(small(), word, size=size)

    def test_by_names(self):
        self.assertIsNone(shut_rows(size=1, word="a", machine=loop("cent")))
        with self.assertRaises(TypeError):
            shut_rows(loop("cent"), "a", 1)


class ShutHolds(unittest.TestCase):
    def check(self, machine, word, rows, size):
        told = slow_holds(machine, word, rows, size)
        found = shut_holds(machine, word, rows, size=size)
        self.assertIs(found, told, (all_of(machine), word, rows, size))
        return found

    def test_other_orders_lists_and_tuples(self):
        for machine, word, size, rows in shut_cases(30, 3):
            turned = [row[::-1] for row in rows]
            lists = [[list(triple) for triple in row] for row in rows]
            for others in (turned, tuple(turned), lists, tuple(lists), [row + row for row in rows]):
                self.assertTrue(self.check(machine, word, others, size))

    def test_one_triple_out(self):
        broken = 0
        for machine, word, size, rows in shut_cases(40, 3):
            for at, row in enumerate(rows):
                for triple in row:
                    others = list(rows)
                    others[at] = tuple(other for other in row if other != triple)
                    broken += not self.check(machine, word, others, size)
        self.assertGreater(broken, 100)

    def test_one_triple_cheaper_or_dearer(self):
        seen = set()
        for machine, word, size, rows in shut_cases(40, 3):
            for at, row in enumerate(rows):
                for room, lesser, greater in row:
                    for pair in ((lesser + 1, greater), (lesser, greater + 1), (max(0, lesser - 1), greater),
                                 (lesser, max(0, greater - 1)), (size + 1, size + 1), (0, 0)):
                        others = list(rows)
                        others[at] = tuple((room, *pair) if other == (room, lesser, greater) else other for other in row)
                        seen.add(self.check(machine, word, others, size))
        self.assertEqual(seen, {True, False})

    def test_further_triples(self):
        seen = set()
        for machine, word, size, rows in shut_cases(40, 3):
            for at in range(len(rows)):
                for room in range(machine.rooms()):
                    for lesser, greater in ((0, 0), (1, 2), (size + 3, 0), (HUGE, HUGE)):
                        others = [list(row) for row in rows]
                        others[at].insert(0, [room, lesser, greater])
                        seen.add(self.check(machine, word, others, size))
        self.assertEqual(seen, {True, False})

    def test_rows_out_or_too_many(self):
        for machine, word, size, rows in shut_cases(40, 3):
            for at in range(len(rows)):
                self.assertFalse(self.check(machine, word, rows[:at] + rows[at + 1:], size))
                self.assertFalse(self.check(machine, word, rows[:at + 1] + rows[at:], size))
            self.assertFalse(self.check(machine, word, [], size))
            self.assertFalse(self.check(machine, word, rows + [()], size))
            self.check(machine, word, [()] * len(rows), size)

    def test_rows_of_another_size(self):
        seen = set()
        for machine, word, size, rows in shut_cases(60, 4):
            for other in range(4):
                seen.add((other < size, self.check(machine, word, rows, other)))
        # Rows of a greater size hold for a lesser one, too; those of a lesser one need not hold for a greater.
        self.assertEqual(seen, {(True, True), (False, True), (False, False)})

    def test_rows_of_words_that_are_let_by_never_hold(self):
        for machine in many_machines(40):
            for word in words_of("ab", 3):
                told = slow_price(machine, word)
                if told is not None:
                    # The boards of a lesser size look right up to their end.
                    rows = shut_rows(machine, word, size=told - 1) if told > 0 else [()] * (len(word) + 1)
                    self.assertFalse(self.check(machine, word, rows, told))

    def test_spent_beyond_the_size_ahead_of_the_letter(self):
        machine = Machine(2, "a", [(0, "a", "fill", 1)], firsts=[], lasts=[0])
        self.assertFalse(self.check(machine, "a", [[(0, 9, 0)], []], 1))
        self.assertTrue(self.check(machine, "a", [[(0, 9, 0)], [(1, 0, 0)]], 1))
        self.assertTrue(self.check(machine, "a", [[(0, 0, 9)], []], 1))

    def test_first_rooms_stand_with_nought(self):
        machine = Machine(3, "a", firsts=[0, 1], lasts=[2])
        self.assertTrue(self.check(machine, "", [[(1, 0, 0), (0, 0, 0)]], 0))
        for row in ([(0, 0, 0)], [(1, 0, 0)], [(0, 0, 0), (1, 1, 0)], [(0, 0, 1), (1, 0, 0)], []):
            self.assertFalse(self.check(machine, "", [row], 0))
        self.assertFalse(self.check(machine, "", [[(1, 0, 0), (0, 0, 0), (2, 9, 9)]], 0))

    def test_many_triples(self):
        machine = Machine(2, "a", [(0, "a", "keep", 0), (0, "a", "cent", 0), (0, "a", "coin", 0)], lasts=[1])
        falling = [(0, k, 399 - k) for k in range(1, 400)] + [(0, 0, 0)]
        self.assertTrue(self.check(machine, "aa", [falling] * 3, 400))
        self.assertTrue(shut_holds(machine, "a" * 60, [falling] * 61, size=400))

    def test_refused(self):
        for word in BAD_WORDS:
            for size in (0, -1, -HUGE):
                with self.assertRaises(BadWord, msg=(word[:9], size)):
                    shut_holds(small(), word, [], size=size)
        for word in ("", "a", "ab" * 30):
            for size in (-1, -HUGE):
                for rows in ([], [()] * (len(word) + 1)):
                    with self.assertRaises(BadSize, msg=(word, size)):
                        shut_holds(small(), word, rows, size=size)

    def test_what_is_handed_in_stays_and_by_names(self):
        machine = Machine(2, "a", [(0, "a", "cent", 1)], lasts=[0])
        rows = [[[0, 0, 0], [0, 0, 0]], [[1, 5, 5], [1, 1, 0]]]
        self.assertIs(shut_holds(size=1, rows=rows, word="a", machine=machine), True)
        self.assertEqual(rows, [[[0, 0, 0], [0, 0, 0]], [[1, 5, 5], [1, 1, 0]]])
        with self.assertRaises(TypeError):
            shut_holds(machine, "a", rows, 1)


if __name__ == "__main__":
    unittest.main()
