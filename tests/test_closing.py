"""Point [13], what [14] says of tables that read `dear`, and [2] where it touches onepurse.closing."""

import itertools
import unittest

from onepurse.closing import MOST_TABLES, closing, dear_pattern
from onepurse.errors import BadSize, TooWide
from onepurse.machines import Machine
from onepurse.prices import price
from onepurse.tables import pattern_table, read_off
from onepurse.words import is_pattern, unrolled
from tests.samples import (DEEDS, HUGE, all_of, loop, made_by_chance, many_machines, nested, ring, slow_best,
                           slow_closing, slow_pattern_table, slow_raised, slow_times, small, wide)

OUTSIDE = (-HUGE, -1, 0, 401, HUGE)


def just_at_the_bound():
    """A machine with 400 tables."""
    arrows = [(0, "a", "cent", 1), (0, "b", "cent", 2), (1, "a", "keep", 2), (2, "a", "fill", 3), (3, "a", "brim", 0),
              (3, "a", "cent", 1), (3, "b", "fill", 1), (3, "b", "keep", 2)]
    return Machine(4, "ab", arrows)


def one_beyond_the_bound():
    """A machine with 401 tables."""
    arrows = [(0, "a", "brim", 1), (0, "b", "keep", 2), (0, "c", "cent", 0), (0, "c", "fill", 2), (1, "b", "brim", 0),
              (2, "a", "brim", 0), (2, "c", "coin", 3), (3, "a", "fill", 2), (3, "c", "brim", 3)]
    return Machine(4, "abc", arrows)


def machines_of_all_sizes():
    """Machines of one, two and three rooms, and with one to three letters."""
    one_room = [Machine(1, "abc", list(zip((0, 0, 0), "abc", deeds, (0, 0, 0))))
                for deeds in itertools.combinations_with_replacement(DEEDS, 3)]
    told = [small(), nested(), ring(2), ring(3), loop("cent", "ab"), Machine(3, "abc")]
    return one_room + told + many_machines(140) + many_machines(30, letters="a") + many_machines(30, letters="abc")


def read(machine, table):
    return slow_best([table[first][last] for first in machine.firsts() for last in machine.lasts()])


class Tables(unittest.TestCase):
    def test_most_tables(self):
        self.assertEqual(MOST_TABLES, 400)

    def test_told_ones(self):
        self.assertEqual(sorted(closing(loop("cent"))), [("(a)", (("dear",),)), ("a", (("cent",),))])
        self.assertEqual(closing(loop("fill")), [("a", (("fill",),))])
        self.assertEqual(closing(Machine(1, "a")), [("a", (("shut",),))])
        found = {table for pattern, table in closing(loop("coin", "ab"))}
        self.assertEqual(found, {(("coin",),), (("dear",),), (("shut",),)})

    def test_just_the_tables_of_the_closing(self):
        several = 0
        for machine in machines_of_all_sizes():
            told = slow_closing(machine, 90)
            if told is not None:
                tables = [table for pattern, table in closing(machine)]
                self.assertEqual(set(tables), told, all_of(machine))
                self.assertEqual(len(tables), len(told))
                several += len(told) > 10
        self.assertGreater(several, 20)

    def test_each_has_a_pattern_of_its_table(self):
        for machine in machines_of_all_sizes():
            for pattern, table in closing(machine):
                self.assertTrue(is_pattern(pattern, machine.letters()), pattern)
                self.assertEqual(slow_pattern_table(machine, pattern), table, (all_of(machine), pattern))
                self.assertEqual(pattern_table(machine, pattern), table)

    def test_closed(self):
        for machine in machines_of_all_sizes()[::9] + [made_by_chance(3, 5, "ab", 9)]:
            tables = {table for pattern, table in closing(machine)}
            self.assertTrue({slow_times(one, other) for one in tables for other in tables} <= tables)
            steady = [table for table in tables if slow_times(table, table) == table]
            self.assertTrue({slow_raised(table) for table in steady} <= tables)

    def test_greater_machines(self):
        for machine in (ring(8), ring(7, "coin"), made_by_chance(2, 8, "abc", 8), made_by_chance(4, 6, "ab", 9)):
            found = closing(machine)
            tables = [table for pattern, table in found]
            self.assertEqual(len(set(tables)), len(tables))
            for pattern, table in found:
                self.assertEqual(pattern_table(machine, pattern), table)

    def test_kinds(self):
        found = closing(small())
        self.assertIsInstance(found, list)
        for pair in found:
            self.assertIsInstance(pair, tuple)
            pattern, table = pair
            self.assertIsInstance(pattern, str)
            self.assertIsInstance(table, tuple)
            self.assertTrue(all(isinstance(row, tuple) for row in table))

    def test_letters_with_one_table(self):
        machine = Machine(1, "abc", [(0, letter, "keep", 0) for letter in "abc"])
        self.assertEqual([table for pattern, table in closing(machine)], [(("keep",),)])

    def test_changed_and_asked_for_again(self):
        machine = small()
        before = all_of(machine)
        found = closing(machine)
        copy = list(found)
        found.reverse()
        found[0] = None
        found.append(("a", ()))
        self.assertEqual(closing(machine), copy)
        self.assertEqual(all_of(machine), before)


class Bounds(unittest.TestCase):
    def assert_too_wide(self, machine, most):
        for ask in (closing, dear_pattern):
            with self.assertRaises(TooWide) as caught:
                ask(machine, most=most)
            self.assertEqual(caught.exception.most, most)

    def test_at_the_count_and_below_it(self):
        for machine in machines_of_all_sizes():
            found = closing(machine)
            count = len(found)
            self.assertEqual(sorted(closing(machine, most=count)), sorted(found))
            self.assertEqual(dear_pattern(machine, most=count), dear_pattern(machine))
            for most in {1, count // 2, count - 1} - {0, count}:
                self.assert_too_wide(machine, most)

    def test_whatever_they_read(self):
        # The first table but one reads dear, and no table is last in the other machine.
        machine = Machine(2, "ab", [(0, "a", "cent", 0), (0, "b", "coin", 1)])
        self.assertIsNotNone(dear_pattern(machine))
        self.assert_too_wide(machine, len(closing(machine)) - 1)
        self.assert_too_wide(Machine(2, "ab", machine.arrows(), lasts=[]), len(closing(machine)) - 1)

    def test_more_than_four_hundred(self):
        for machine in (wide(), Machine(8, "ab", wide().arrows() + [(0, "a", "coin", 0)], lasts=[]),
                        made_by_chance(11, 8, "abc", 40)):
            for ask in (closing, dear_pattern):
                with self.assertRaises(TooWide) as caught:
                    ask(machine)
                self.assertEqual(caught.exception.most, 400)
            self.assert_too_wide(machine, 400)
            self.assert_too_wide(machine, 399)
            self.assert_too_wide(machine, 1)

    def test_just_four_hundred_and_one_more(self):
        self.assertEqual(len({table for pattern, table in closing(just_at_the_bound())}), 400)
        self.assertEqual(len(closing(just_at_the_bound(), most=400)), 400)
        self.assert_too_wide(just_at_the_bound(), 399)
        self.assert_too_wide(one_beyond_the_bound(), 400)

    def test_refused(self):
        for ask in (closing, dear_pattern):
            for machine in (loop("cent"), wide()):
                for most in OUTSIDE:
                    with self.assertRaises(BadSize, msg=most):
                        ask(machine, most=most)
        self.assertEqual(len(closing(loop("fill"), most=1)), 1)
        self.assertEqual(len(closing(loop("fill"), most=400)), 1)

    def test_by_names(self):
        self.assertEqual(closing(most=5, machine=loop("fill")), [("a", (("fill",),))])
        self.assertIsNone(dear_pattern(most=5, machine=loop("fill")))
        for ask in (closing, dear_pattern):
            with self.assertRaises(TypeError):
                ask(loop("fill"), 5)


class DearPattern(unittest.TestCase):
    def test_told_ones(self):
        self.assertEqual(dear_pattern(loop("cent")), "(a)")
        self.assertEqual(dear_pattern(loop("coin")), "(a)")
        for deed in ("keep", "fill", "brim"):
            self.assertIsNone(dear_pattern(loop(deed)))
        self.assertIsNone(dear_pattern(Machine(1, "a")))

    def test_first_and_last_rooms_count(self):
        arrows = [(0, "a", "cent", 0), (0, "b", "keep", 1)]
        for firsts, lasts, dear in (([0], [0], True), ([0], [1], True), ([1], [1], False), ([], [0], False),
                                    ([0], [], False), ([1], [0], False), ([0, 1], [0, 1], True)):
            machine = Machine(2, "ab", arrows, firsts=firsts, lasts=lasts)
            self.assertIs(dear_pattern(machine) is not None, dear, (firsts, lasts))

    def test_another_way_is_cheap(self):
        machine = Machine(2, "a", [(0, "a", "cent", 0), (1, "a", "keep", 1)], firsts=[0, 1], lasts=[0, 1])
        self.assertIsNone(dear_pattern(machine))

    def test_just_where_a_table_reads_dear(self):
        count = {True: 0, False: 0}
        for machine in machines_of_all_sizes():
            told = slow_closing(machine, 90)
            if told is not None:
                dear = any(read(machine, table) == "dear" for table in told)
                found = dear_pattern(machine)
                self.assertIs(found is not None, dear, all_of(machine))
                count[dear] += 1
                if dear:
                    self.assertTrue(is_pattern(found, machine.letters()))
                    self.assertEqual(read(machine, slow_pattern_table(machine, found)), "dear")
                    self.assertEqual(read_off(machine, pattern_table(machine, found)), "dear")
        self.assertGreater(min(count.values()), 20)

    def test_its_words_get_dearer(self):
        for machine in (loop("cent"), loop("coin"), ring(2), nested(), Machine(2, "ab", nested().arrows(), lasts=[1])):
            pattern = dear_pattern(machine)
            prices = [price(machine, unrolled(pattern, goings)) for goings in (1, 2, 4, 5)]
            self.assertEqual(prices, sorted(prices))
            self.assertGreaterEqual(prices[-1], 4)

    def test_the_machine_stays(self):
        machine = small()
        before = all_of(machine)
        self.assertEqual(dear_pattern(machine), dear_pattern(machine))
        self.assertEqual(all_of(machine), before)


if __name__ == "__main__":
    unittest.main()
