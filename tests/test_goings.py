"""Point [17], with what [7], [8] and [12] say of patterns, and [2] where it touches onepurse.goings."""

import itertools
import unittest

from onepurse.closing import closing
from onepurse.errors import BadPattern, BadSize, NotDear, TooWide
from onepurse.goings import MOST_GOINGS, how_often, price_often
from onepurse.machines import Machine
from onepurse.words import length_of, unrolled
from tests.samples import (HUGE, all_of, loop, many_machines, nested, ring, slow_best, slow_lets, slow_lets_with,
                           slow_pattern_table, small)

NO_PATTERNS = ("", "(", ")", "()", "a)", "(a", "(a))", "c", "abc", "A", " ", "a b", "(a)()", "\n", "a" * 399 + "c",
               "(" * 61 + "a" + ")" * 61)
PATTERNS = ("a", "b", "ab", "(a)", "(b)", "a(b)", "(ab)", "(a)(b)", "a(ba)b", "((a)b)", "(a(b))", "b((ab)a)", "(((a)b)a)",
            "((a)(b))", "(aab)", "((b)a(b))")


def either():
    """Each letter takes a coin from the one purse or from the other."""
    return Machine(1, "ab", [(0, "a", "cent", 0), (0, "a", "coin", 0), (0, "b", "fill", 0)])


def cheaper_gone_twice():
    """A machine by which the word of `(ab)` costs 2, 1, 2, 2, 3 .."""
    arrows = [(0, "a", "coin", 0), (0, "b", "cent", 1), (0, "b", "fill", 0), (1, "a", "cent", 0)]
    return Machine(2, "ab", arrows, firsts=[1], lasts=[1])


def some_machines():
    return [small(), nested(), either(), Machine(2, "ab"), Machine(1, "ab", firsts=[]), loop("cent", "ab"),
            *many_machines(50), *many_machines(24, most_arrows=16)]


def slow_price_of(machine, word):
    """The price of a word, by trying one size after the other."""
    if not slow_lets(machine, word):
        return None
    return next(size for size in itertools.count() if slow_lets_with(machine, word, size))


def slow_is_dear(machine, pattern):
    table = slow_pattern_table(machine, pattern)
    marks = [] if table is None else [table[one][other] for one in machine.firsts() for other in machine.lasts()]
    return slow_best(marks) == "dear"


class PriceOften(unittest.TestCase):
    def test_told_ones(self):
        for goings in (1, 2, 30, 60):
            self.assertEqual(price_often(loop("cent"), "(a)", goings), goings)
            self.assertEqual(price_often(loop("coin"), "(a)", goings), goings)
            self.assertEqual(price_often(loop("cent"), "a", goings), 1)
        for goings in (1, 2, 60, 399, 400):
            for deed in ("keep", "fill", "brim"):
                self.assertEqual(price_often(loop(deed), "(a(a))", goings), 0)
        machine = Machine(1, "ab", [(0, "a", "cent", 0), (0, "b", "fill", 0)])
        self.assertEqual(price_often(machine, "(ab)", 400), 1)
        self.assertEqual(price_often(machine, "((aaa)b)", 20), 60)
        self.assertEqual(price_often(machine, "a" * 60, 400), 60)

    def test_as_the_words_tell(self):
        several = 0
        for machine in some_machines():
            for pattern, goings in itertools.product(PATTERNS, (1, 2, 3, 5)):
                told = slow_price_of(machine, unrolled(pattern, goings))
                if told is None or told <= 60:
                    self.assertEqual(price_often(machine, pattern, goings), told, (all_of(machine), pattern, goings))
                    several += told is not None and told > 3
        self.assertGreater(several, 50)

    def test_words_of_more_than_sixty_letters(self):
        for machine in some_machines()[:30]:
            for pattern, goings in (("(ab)", 40), ("(a)", 70), ("a((b)a)", 9), ("(a(b))", 20)):
                word = unrolled(pattern, goings)
                self.assertGreater(len(word), 60)
                told = slow_price_of(machine, word) if not slow_lets(machine, word) or slow_lets_with(
                    machine, word, 60) else 61
                if told != 61:
                    self.assertEqual(price_often(machine, pattern, goings), told, (all_of(machine), pattern))
                else:
                    with self.assertRaises(TooWide) as caught:
                        price_often(machine, pattern, goings)
                    self.assertEqual(caught.exception.most, 60)

    def test_words_of_any_length(self):
        deep = "(" * 60 + "a" + ")" * 60
        self.assertEqual(price_often(loop("fill"), deep, 400), 0)
        self.assertEqual(price_often(loop("cent"), deep, 1), 1)
        self.assertEqual(price_often(either(), "((((ab))))", 400), 1)
        mixed = "(" * 59 + "(a)b" + ")" * 59
        self.assertGreater(length_of(mixed, 60), 10 ** 100)
        machine = Machine(1, "ab", [(0, "a", "cent", 0), (0, "b", "brim", 0)])
        self.assertEqual(price_often(machine, mixed, 60), 60)
        self.assertEqual(price_often(machine, mixed, 7), 7)
        self.assertEqual(price_often(ring(7, "keep"), "((aaaaaaa))", 400), 0)
        self.assertEqual(price_often(ring(7, "keep"), "((a))" + "a" * 6, 400), 0)
        self.assertIsNone(price_often(ring(7, "keep"), "((a))", 400))

    def test_both_purses(self):
        machine = Machine(1, "abc", [(0, "a", "cent", 0), (0, "b", "coin", 0), (0, "c", "brim", 0)])
        for goings in (1, 5, 30):
            self.assertEqual(price_often(machine, "(((a)b)c)", goings), goings)
        self.assertEqual(price_often(machine, "(((aa)b)c)", 30), 60)

    def test_many_ways(self):
        # With the size n the word of n * n + 2 * n letters is let by, and none longer.
        for goings, told in ((1, 1), (3, 1), (4, 2), (8, 2), (9, 3), (399, 19), (400, 20)):
            self.assertEqual(price_often(either(), "(a)", goings), told)

    def test_none(self):
        self.assertIsNone(price_often(loop("cent", "ab"), "(ab)", 400))
        self.assertIsNone(price_often(Machine(1, "a", firsts=[]), "a", 1))
        self.assertIsNone(price_often(Machine(1, "a", [(0, "a", "cent", 0)], lasts=[]), "(a)", 400))
        self.assertIsNone(price_often(ring(2), "(a)", 399))
        self.assertEqual(price_often(ring(2, "keep"), "(a)", 400), 0)

    def test_too_wide(self):
        for pattern, goings in (("(a)", 61), ("(a)", 400), ("((a))", 8), ("a" * 61, 1), ("(" * 60 + "a" + ")" * 60, 400)):
            for deed in ("cent", "coin"):
                with self.assertRaises(TooWide, msg=pattern) as caught:
                    price_often(loop(deed), pattern, goings)
                self.assertEqual(caught.exception.most, 60)
        self.assertEqual(price_often(loop("cent"), "(a)", 60), 60)

    def test_refused(self):
        for pattern in NO_PATTERNS:
            for goings in (1, 0, 401, -HUGE):
                with self.assertRaises(BadPattern, msg=pattern):
                    price_often(small(), pattern, goings)
        for goings in (0, -1, 401, HUGE, -HUGE):
            for machine, pattern in ((small(), "(ab)"), (loop("cent"), "a"), (Machine(1, "a", firsts=[]), "(a)")):
                with self.assertRaises(BadSize, msg=goings):
                    price_often(machine, pattern, goings)

    def test_by_names_and_the_machine_stays(self):
        machine = small()
        before = all_of(machine)
        told = price_often(machine, "(ab)", 9)
        self.assertEqual(price_often(goings=9, pattern="(ab)", machine=machine), told)
        self.assertEqual(all_of(machine), before)


class HowOften(unittest.TestCase):
    def test_told_ones(self):
        self.assertEqual(MOST_GOINGS, 400)
        for number in range(61):
            self.assertEqual(how_often(loop("cent"), "(a)", number), number + 1)
            self.assertEqual(how_often(loop("coin"), "(aa)", number), number // 2 + 1)
        self.assertEqual(how_often(loop("cent"), "((a))", 60), 8)
        self.assertEqual(how_often(loop("cent"), "aa(a)aa", 3), 1)
        self.assertEqual(how_often(loop("cent"), "(" * 60 + "a" + ")" * 60, 60), 2)
        for number, goings in ((0, 1), (1, 4), (2, 9), (3, 16), (18, 361)):
            self.assertEqual(how_often(either(), "(a)", number), goings)

    def test_the_least_count(self):
        cases = {number: 0 for number in (0, 1, 2, 3)}
        for machine in some_machines():
            for pattern in PATTERNS + tuple(pattern for pattern, table in closing(machine)[:20]):
                if slow_is_dear(machine, pattern) and length_of(pattern, 12) < 2000:
                    for number in cases:
                        words = [unrolled(pattern, goings) for goings in range(1, 13)]
                        dear = [at + 1 for at, word in enumerate(words) if not slow_lets_with(machine, word, number)]
                        if dear:
                            self.assertEqual(how_often(machine, pattern, number), dear[0], (all_of(machine), pattern))
                            cases[number] += 1
        self.assertGreater(min(cases.values()), 20)

    def test_prices_that_fall_and_rise(self):
        machine = cheaper_gone_twice()
        self.assertEqual([price_often(machine, "(ab)", goings) for goings in range(1, 6)], [2, 1, 2, 2, 3])
        self.assertEqual([how_often(machine, "(ab)", number) for number in range(3)], [1, 1, 5])
        self.assertEqual(how_often(machine, "(ab)", 1, most=1), 1)

    def test_dearer_than_sixty(self):
        for machine in some_machines():
            for pattern in PATTERNS:
                if slow_is_dear(machine, pattern):
                    try:
                        found = how_often(machine, pattern, 60)
                    except TooWide as wide:
                        self.assertEqual(wide.most, 400)
                        self.assertLessEqual(price_often(machine, pattern, 400), 60)
                        continue
                    with self.assertRaises(TooWide):
                        price_often(machine, pattern, found)
                    if found > 1:
                        self.assertLessEqual(price_often(machine, pattern, found - 1), 60)

    def test_most(self):
        for machine, pattern, number, told in ((loop("cent"), "(a)", 60, 61), (either(), "(a)", 3, 16),
                                               (loop("coin"), "(a)", 1, 2), (nested(), "(a)", 0, 1)):
            self.assertEqual(how_often(machine, pattern, number, most=told), told)
            self.assertEqual(how_often(machine, pattern, number, most=400), told)
            if told > 1:
                for most in {1, told - 1}:
                    with self.assertRaises(TooWide) as caught:
                        how_often(machine, pattern, number, most=most)
                    self.assertEqual(caught.exception.most, most)
        with self.assertRaises(TooWide) as caught:
            how_often(either(), "(a)", 60)
        self.assertEqual(caught.exception.most, 400)

    def test_at_the_bound_of_four_hundred(self):
        self.assertEqual(how_often(either(), "(a)", 19), 400)
        with self.assertRaises(TooWide):
            how_often(either(), "(a)", 19, most=399)
        with self.assertRaises(TooWide):
            how_often(either(), "(a)", 20)

    def test_not_dear(self):
        swap = Machine(2, "ab", [(0, "a", "keep", 1), (1, "a", "keep", 0), (0, "b", "cent", 0)])
        for machine, pattern in ((loop("fill"), "(a)"), (loop("cent"), "a"), (loop("cent", "ab"), "(b)"), (swap, "(a)"),
                                 (swap, "(b(a))"), (Machine(1, "a", [(0, "a", "cent", 0)], lasts=[]), "(a)"),
                                 (Machine(1, "a", [(0, "a", "cent", 0)], firsts=[]), "(a)"), (ring(2), "(a)")):
            for number, most in ((0, 1), (60, 400)):
                with self.assertRaises(NotDear, msg=pattern):
                    how_often(machine, pattern, number, most=most)
        for machine in some_machines():
            for pattern in PATTERNS:
                if not slow_is_dear(machine, pattern):
                    with self.assertRaises(NotDear, msg=pattern):
                        how_often(machine, pattern, 2)

    def test_refused_in_order(self):
        for pattern in NO_PATTERNS:
            for number, most in ((0, 1), (-1, 400), (61, 0), (3, 401)):
                with self.assertRaises(BadPattern, msg=pattern):
                    how_often(small(), pattern, number, most=most)
        for machine, pattern in ((loop("cent"), "(a)"), (loop("fill"), "(a)"), (ring(2), "(a)")):
            for number, most in ((-1, 400), (61, 400), (HUGE, 1), (-HUGE, 1), (0, 0), (0, 401), (60, -1), (1, HUGE),
                                 (1, -HUGE), (-1, 0)):
                with self.assertRaises(BadSize, msg=(number, most)):
                    how_often(machine, pattern, number, most=most)
        with self.assertRaises(NotDear):
            how_often(loop("cent"), "a", 60, most=1)

    def test_by_names_and_the_machine_stays(self):
        machine = nested()
        before = all_of(machine)
        self.assertEqual(how_often(most=9, number=2, pattern="(a)", machine=machine), 3)
        with self.assertRaises(TypeError):
            how_often(machine, "(a)", 2, 9)
        self.assertEqual(all_of(machine), before)


if __name__ == "__main__":
    unittest.main()
