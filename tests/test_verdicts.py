"""Points [14], [15] and [16], and [2] where it touches onepurse.verdicts."""

import itertools
import random
import unittest

from onepurse.closing import dear_pattern
from onepurse.errors import BadSize, TooWide
from onepurse.machines import Machine
from onepurse.verdicts import MOST_PAIRS, MOST_SIZE, first_dear, is_enough, verdict, verdict_holds
from tests.samples import (DEEDS, HUGE, all_of, loop, made_by_chance, many_machines, nested, ring, slow_best,
                           slow_board, slow_closing, slow_least, slow_lets, slow_lets_with, slow_pattern_table,
                           slow_price, slow_rooms, small, states_behind, wide, words_of)


def machines_of_all_sizes():
    """Machines of one to three rooms and of one to three letters."""
    one_room = [Machine(1, "ab", [(0, "a", one, 0), (0, "b", other, 0)])
                for one, other in itertools.product(DEEDS, repeat=2)]
    told = [small(), nested(), ring(2), ring(3, "coin"), Machine(3, "abc"), Machine(2, "a", firsts=[], lasts=[]),
            two_coins()]
    return (one_room + told + many_machines(80) + many_machines(40, letters="a", most_arrows=6)
            + many_machines(40, letters="abc") + many_machines(40, most_arrows=16))


def two_coins():
    """Up to two letters that cost a coin each."""
    arrows = [(room, letter, "coin", room + 1) for room in (0, 1) for letter in "ab"]
    return Machine(3, "ab", arrows + [(2, "b", "brim", 0)], lasts=[0, 2])


def seven_round(size_of_arrow="cent"):
    """Seven rooms that go round, one arrow of which costs a cent."""
    arrows = [(room, "a", size_of_arrow if room == 6 else "keep", (room + 1) % 7) for room in range(7)]
    return Machine(7, "a", arrows)


def gaps(last):
    """Words of 4x + 5y + last letters cost nothing, all others as many cents as they have letters."""
    arrows = [(room, "a", "keep", (room + 1) % 5) for room in range(5)] + [(3, "a", "keep", 0), (5, "a", "cent", 5)]
    return Machine(6, "a", arrows, firsts=[0, 5], lasts=[last, 5])


def slow_pair(machine, word, size):
    return (slow_rooms(machine, word), slow_board(machine, word, size))


def slow_next(machine, pair, letter, size):
    rooms, board = pair
    after = {arrow[3] for arrow in machine.arrows() if arrow[0] in rooms and arrow[1] == letter}
    return (tuple(sorted(after)), slow_least(states_behind(machine, board, letter, size)))


def slow_fails(machine, pair):
    rooms, board = pair
    lasts = machine.lasts()
    return any(room in lasts for room in rooms) and not any(triple[0] in lasts for triple in board)


def slow_search(machine, size, most):
    """All pairs ahead of one that fails, in order, and the word of that one; None where there are more than so many."""
    first = slow_pair(machine, "", size)
    found, words = [first], [("", first)]
    while words:
        fresh = []
        for word, pair in words:
            for letter in machine.letters():
                made = slow_next(machine, pair, letter, size)
                if made not in found:
                    if slow_fails(machine, made):
                        return found, word + letter
                    found.append(made)
                    fresh.append((word + letter, made))
                    if len(found) > most:
                        return None
        words = fresh
    return found, None


def slow_shows_price(machine, word, size):
    if word is None:
        return size == 0
    if any(letter not in machine.letters() for letter in word) or size < 0 or size > len(word):
        return False
    return slow_lets_with(machine, word, size) and not (size and slow_lets_with(machine, word, size - 1))


def slow_holds(machine, told):
    """Whether a verdict of sizes holds, as [16] says it."""
    kind, size, word, pairs = told
    if not slow_shows_price(machine, word, size) or slow_pair(machine, "", 0) not in pairs:
        return False
    return not any(slow_fails(machine, pair) for pair in pairs) and all(
        slow_next(machine, pair, letter, size) in pairs for pair in pairs for letter in machine.letters())


def enough_verdicts(count=400):
    """Machines with verdicts that tell a size."""
    for machine in machines_of_all_sizes()[:count] + [gaps(0), seven_round("keep")]:
        told = verdict(machine)
        if told[0] == "enough":
            yield machine, told


class FirstDear(unittest.TestCase):
    def test_told_ones(self):
        for size in range(6):
            for deed in ("cent", "coin"):
                self.assertEqual(first_dear(loop(deed), size), "a" * (size + 1))
                self.assertIs(is_enough(loop(deed), size), False)
            for deed in ("keep", "fill", "brim"):
                self.assertIsNone(first_dear(loop(deed), size))
                self.assertIs(is_enough(loop(deed), size), True)
        self.assertIsNone(first_dear(Machine(3, "abc"), 0))
        self.assertIsNone(first_dear(Machine(1, "a", firsts=[], lasts=[]), 0))

    def test_the_shorter_ones_first_else_rising(self):
        arrows = [(0, "a", "keep", 0), (0, "b", "cent", 1), (1, "a", "cent", 1), (0, "c", "coin", 1)]
        self.assertEqual(first_dear(Machine(2, "abc", arrows, lasts=[1]), 0), "b")
        self.assertEqual(first_dear(Machine(2, "abc", arrows, lasts=[1]), 1), "ba")
        longer = Machine(3, "ab", [(0, "a", "keep", 1), (1, "a", "cent", 2), (0, "b", "cent", 2)], lasts=[2])
        self.assertEqual(first_dear(longer, 0), "b")
        level = Machine(3, "ab", [(0, "a", "keep", 1), (1, "b", "cent", 2), (1, "a", "cent", 2), (0, "b", "cent", 1)],
                        lasts=[2])
        self.assertEqual(first_dear(level, 0), "aa")
        self.assertEqual(first_dear(level, 1), "ba")
        self.assertIsNone(first_dear(level, 2))

    def test_as_all_words_tell(self):
        told = {True: 0, False: 0}
        for machine in machines_of_all_sizes():
            if len(machine) > 9:
                continue
            prices = [(word, slow_price(machine, word)) for word in words_of(machine.letters(), 4)]
            for size in range(6):
                found = first_dear(machine, size)
                dear = [word for word, price in prices if price is not None and price > size]
                told[bool(dear)] += 1
                if dear:
                    self.assertEqual(found, dear[0], (all_of(machine), size))
                elif found is not None:
                    self.assertGreater(len(found), 4)
        self.assertGreater(min(told.values()), 50)

    def test_longer_words_and_greater_sizes(self):
        found_ones = 0
        for machine in machines_of_all_sizes() + [made_by_chance(seed, 5, "ab", 14) for seed in range(8)]:
            for size in (0, 1, 3, 5, 9):
                slow = slow_search(machine, size, 60)
                if slow is not None:
                    self.assertEqual(first_dear(machine, size), slow[1], (all_of(machine), size))
                    self.assertIs(is_enough(machine, size), slow[1] is None)
                    found_ones += slow[1] is not None and len(slow[1]) > 5
                    if slow[1] is not None:
                        self.assertTrue(slow_lets(machine, slow[1]))
                        self.assertFalse(slow_lets_with(machine, slow[1], size))
        self.assertGreater(found_ones, 10)

    def test_more_than_sixty_letters(self):
        for size in (0, 8, 9, 20):
            self.assertEqual(first_dear(seven_round(), size), "a" * (7 * size + 7))
        self.assertEqual(first_dear(seven_round("coin"), 30), "a" * 217)
        self.assertIsNone(first_dear(seven_round("fill"), 0))

    def test_far_greater_sizes(self):
        self.assertEqual(first_dear(loop("cent"), 999), "a" * 1000)
        for size in (1000, HUGE):
            with self.assertRaises(TooWide) as caught:
                first_dear(loop("coin"), size)
            self.assertEqual(caught.exception.most, 1000)
            self.assertIsNone(first_dear(loop("fill"), size))
            self.assertIsNone(first_dear(Machine(2, "ab", [(0, "a", "cent", 1)], lasts=[0, 1]), size))
            self.assertIs(is_enough(loop("brim"), size), True)


class Most(unittest.TestCase):
    def assert_too_wide(self, ask, machine, size, most):
        with self.assertRaises(TooWide) as caught:
            ask(machine, size, most=most)
        self.assertEqual(caught.exception.most, most)

    def test_bounds(self):
        self.assertEqual((MOST_SIZE, MOST_PAIRS), (12, 1000))

    def test_at_the_count_and_below_it(self):
        ends = {True: 0, False: 0}
        for machine in machines_of_all_sizes():
            for size in (0, 1, 2):
                slow = slow_search(machine, size, 60)
                if slow is None:
                    continue
                count = len(slow[0])
                ends[slow[1] is None] += count > 1
                self.assertEqual(first_dear(machine, size, most=count), slow[1])
                self.assertIs(is_enough(machine, size, most=count), slow[1] is None)
                for most in {1, count - 1} - {0, count}:
                    self.assert_too_wide(first_dear, machine, size, most)
                    self.assert_too_wide(is_enough, machine, size, most)
        self.assertGreater(min(ends.values()), 20)

    def test_told_counts(self):
        # The pairs of 0, 1, .. 5 letters are found ahead of the one that fails.
        self.assertEqual(first_dear(loop("cent"), 5, most=6), "aaaaaa")
        self.assert_too_wide(first_dear, loop("cent"), 5, 5)
        self.assertIsNone(first_dear(loop("fill"), 5, most=1))
        self.assert_too_wide(first_dear, Machine(1, "a"), 0, 1)
        self.assertIsNone(first_dear(Machine(1, "a"), 0, most=2))

    def test_refused(self):
        for ask in (first_dear, is_enough):
            for machine in (loop("cent"), small(), Machine(1, "a")):
                for size, most in ((-1, 5), (-HUGE, 1), (-1, 0), (0, 0), (0, -1), (3, 1001), (0, HUGE), (0, -HUGE)):
                    with self.assertRaises(BadSize, msg=(size, most)):
                        ask(machine, size, most=most)
                with self.assertRaises(BadSize):
                    ask(machine, -1)
        for most in (0, -1, 1001, HUGE, -HUGE):
            for machine in (loop("cent"), loop("fill"), wide()):
                with self.assertRaises(BadSize):
                    verdict(machine, most=most)
        self.assertIsNone(first_dear(loop("keep"), 0, most=1000))

    def test_by_names(self):
        self.assertEqual(first_dear(most=5, size=1, machine=loop("cent")), "aa")
        self.assertIs(is_enough(most=5, size=1, machine=loop("cent")), False)
        self.assertEqual(verdict(most=5, machine=loop("cent")), ("never", "(a)"))
        for ask in (first_dear, is_enough):
            with self.assertRaises(TypeError):
                ask(loop("cent"), 1, 5)
        with self.assertRaises(TypeError):
            verdict(loop("cent"), 5)
        self.assertIs(verdict_holds(told=("never", "(a)"), machine=loop("cent")), True)


class Verdict(unittest.TestCase):
    def test_told_ones(self):
        self.assertEqual(verdict(loop("cent")), ("never", "(a)"))
        self.assertEqual(verdict(loop("coin")), ("never", "(a)"))
        self.assertEqual(verdict(loop("fill")), ("enough", 0, "", [((0,), ((0, 0, 0),))]))
        machine = Machine(2, "ab", [(0, "a", "cent", 1), (1, "b", "fill", 0)])
        pairs = [((0,), ((0, 0, 0),)), ((1,), ((1, 1, 0),)), ((), ())]
        self.assertEqual(verdict(machine), ("enough", 1, "ab", pairs))

    def test_the_word_for_the_size_nought(self):
        self.assertEqual(verdict(Machine(2, "ab", [(0, "b", "fill", 1)], lasts=[1]))[:3], ("enough", 0, "b"))
        either = Machine(2, "ab", [(0, "b", "keep", 1), (0, "a", "keep", 1)], lasts=[1])
        self.assertEqual(verdict(either)[:3], ("enough", 0, "a"))
        for machine in (Machine(2, "ab", lasts=[1]), Machine(1, "a", firsts=[]), Machine(1, "a", lasts=[]),
                        Machine(2, "a", [(0, "a", "cent", 0)], lasts=[1])):
            self.assertEqual(verdict(machine)[:3], ("enough", 0, None))
        self.assertEqual(verdict(Machine(1, "a", firsts=[]))[3], [((), ())])

    def test_never_just_where_a_table_reads_dear(self):
        count = {True: 0, False: 0}
        for machine in machines_of_all_sizes():
            tables = slow_closing(machine, 90)
            if tables is None:
                continue
            dear = any(slow_best([table[first][last] for first in machine.firsts() for last in machine.lasts()])
                       == "dear" for table in tables)
            told = verdict(machine)
            count[dear] += 1
            self.assertEqual(told[0], "never" if dear else "enough", all_of(machine))
            if dear:
                kind, pattern = told
                self.assertEqual(verdict(machine, most=1)[0], "never")
                table = slow_pattern_table(machine, pattern)
                marks = [table[first][last] for first in machine.firsts() for last in machine.lasts()]
                self.assertEqual(slow_best(marks), "dear")
        self.assertGreater(min(count.values()), 20)

    def test_the_least_size_its_word_and_all_pairs(self):
        sizes = set()
        for machine, told in enough_verdicts():
            kind, size, word, pairs = told
            self.assertEqual(slow_search(machine, size, 1000), (pairs, None), all_of(machine))
            sizes.add(size)
            if size:
                self.assertEqual(slow_search(machine, size - 1, 1000)[1], word)
            else:
                let_by = [each for each in words_of(machine.letters(), 4) if slow_lets(machine, each)]
                self.assertTrue(word == (let_by + [None])[0] or (not let_by and len(word) > 4), all_of(machine))
        self.assertTrue({0, 1, 2, 11} <= sizes, sizes)

    def test_pairs_of_short_words_come_in_their_order(self):
        for machine, told in itertools.islice(enough_verdicts(), 0, 120, 3):
            if len(machine) > 9:
                continue
            first_found = []
            for word in words_of(machine.letters(), 4):
                pair = slow_pair(machine, word, told[1])
                if pair not in first_found:
                    first_found.append(pair)
            self.assertEqual(told[3][:len(first_found)], first_found)

    def test_up_to_twelve(self):
        for last, size in ((0, 11), (1, 12)):
            told = verdict(gaps(last))
            self.assertEqual(told[:3], ("enough", size, "a" * size))
            self.assertTrue(slow_holds(gaps(last), told))
        with self.assertRaises(TooWide) as caught:
            verdict(gaps(2))
        self.assertEqual(caught.exception.most, 12)
        self.assertIs(is_enough(gaps(2), 13), True)
        self.assertEqual(first_dear(gaps(2), 12), "a" * 13)

    def test_too_many_pairs(self):
        for machine, (kind, size, word, pairs) in enough_verdicts():
            needed = len(pairs)
            if size:
                # Fewer pairs are found ahead of the failing ones of lesser sizes, or more.
                needed = max([needed] + [len(slow_search(machine, less, 1000)[0]) for less in range(size)])
            self.assertEqual(verdict(machine, most=needed), (kind, size, word, pairs))
            if needed > 1:
                with self.assertRaises(TooWide) as caught:
                    verdict(machine, most=needed - 1)
                self.assertEqual(caught.exception.most, needed - 1)

    def test_too_many_pairs_ahead_of_twelve(self):
        with self.assertRaises(TooWide) as caught:
            verdict(gaps(2), most=9)
        self.assertEqual(caught.exception.most, 9)

    def test_the_closing_is_asked_first(self):
        for most in (1, 2, 1000):
            with self.assertRaises(TooWide) as caught:
                verdict(wide(), most=most)
            self.assertEqual(caught.exception.most, 400)

    def test_kinds(self):
        for machine in (small(), gaps(0), loop("keep"), loop("cent"), Machine(1, "a", firsts=[])):
            told = verdict(machine)
            self.assertIsInstance(told, tuple)
            if told[0] == "enough":
                self.assertIsInstance(told[3], list)
                for rooms, board in told[3]:
                    self.assertIsInstance(rooms, tuple)
                    self.assertIsInstance(board, tuple)
                self.assertTrue(all(isinstance(pair, tuple) for pair in told[3]))

    def test_changed_and_asked_for_again(self):
        machine = gaps(0)
        before = all_of(machine)
        told = verdict(machine)
        copy = list(told[3])
        told[3].reverse()
        told[3][0] = None
        told[3].append(((), ()))
        self.assertEqual(verdict(machine)[3], copy)
        self.assertEqual(all_of(machine), before)


class NeverHolds(unittest.TestCase):
    def test_told_ones(self):
        dear = 0
        for machine in machines_of_all_sizes():
            pattern = dear_pattern(machine)
            if pattern is not None:
                dear += 1
                self.assertIs(verdict_holds(machine, ("never", pattern)), True)
                self.assertIs(verdict_holds(machine, verdict(machine)), True)
        self.assertGreater(dear, 20)

    def test_patterns_that_read_otherwise(self):
        self.assertIs(verdict_holds(loop("cent"), ("never", "a")), False)
        self.assertIs(verdict_holds(loop("cent"), ("never", "(a)a(a)")), True)
        self.assertIs(verdict_holds(loop("fill"), ("never", "(a)")), False)
        self.assertIs(verdict_holds(loop("cent", "ab"), ("never", "(ab)")), False)
        self.assertIs(verdict_holds(Machine(1, "a", [(0, "a", "cent", 0)], lasts=[]), ("never", "(a)")), False)

    def test_patterns_without_a_table_and_texts_that_are_none(self):
        self.assertIs(verdict_holds(ring(2), ("never", "(a)")), False)
        self.assertIs(verdict_holds(ring(2), ("never", "(aa)")), True)
        deep = "(" * 61 + "a" + ")" * 61
        for text in ("", "(", ")", "()", "a)", "(a", "((a)", "b", "(b)", "A", "(a) ", "a\n", "(a)()", deep, "x" * 20000):
            self.assertIs(verdict_holds(loop("cent"), ("never", text)), False, text[:9])
        self.assertIs(verdict_holds(loop("cent"), ("never", deep[1:-1])), True)

    def test_as_the_tables_tell(self):
        texts = ["".join(signs) for length in range(1, 6) for signs in itertools.product("ab()", repeat=length)]
        for machine in machines_of_all_sizes()[40:60]:
            for text in texts[::7] if set("ab") <= set(machine.letters()) else []:
                reduced = text.replace("a", "x").replace("b", "x")
                for turn in range(6):
                    reduced = reduced.replace("(x)", "x").replace("xx", "x")
                table = slow_pattern_table(machine, text) if reduced == "x" else None
                marks = [] if table is None else [table[one][other] for one in machine.firsts()
                                                  for other in machine.lasts()]
                self.assertIs(verdict_holds(machine, ("never", text)), slow_best(marks) == "dear", text)


class EnoughHolds(unittest.TestCase):
    def check(self, machine, told):
        want = slow_holds(machine, told)
        self.assertIs(verdict_holds(machine, told), want, (all_of(machine), told))
        return want

    def test_told_ones(self):
        for machine, told in enough_verdicts():
            self.assertTrue(slow_holds(machine, told), all_of(machine))
            self.assertIs(verdict_holds(machine, told), True, all_of(machine))

    def test_another_size(self):
        for machine, (kind, size, word, pairs) in enough_verdicts():
            for other in (size - 1, size + 1, size + 5, -1, -HUGE, HUGE):
                self.assertIs(verdict_holds(machine, (kind, other, word, pairs)), False)

    def test_another_size_of_the_pairs_too(self):
        for machine, (kind, size, word, pairs) in enough_verdicts(90):
            found, dear = slow_search(machine, size + 1, 1000)
            self.assertIsNone(dear)
            self.assertIs(verdict_holds(machine, (kind, size + 1, word, found)), False)
            self.check(machine, (kind, size, word, found))

    def test_another_word(self):
        held = {True: 0, False: 0}
        for machine, (kind, size, word, pairs) in enough_verdicts():
            letters = machine.letters()
            others = [*words_of(letters, 2), letters[0] * 61, letters[-1] * 130, "z", letters + "z", "A", " ", "\n",
                      (word or "") + letters[0], (word or "")[1:], (word or "")[::-1]]
            for other in others:
                held[self.check(machine, (kind, size, other, pairs))] += 1
            self.assertIs(verdict_holds(machine, (kind, size, None, pairs)), size == 0)
        self.assertGreater(min(held.values()), 100)

    def test_long_words(self):
        for around in (61, 140, 2000):
            word = "ab" * around
            machine = Machine(2, "ab", [(0, "a", "cent", 1), (1, "b", "fill", 0)])
            pairs = verdict(machine)[3]
            self.assertIs(verdict_holds(machine, ("enough", 1, word, pairs)), True)
            self.assertIs(verdict_holds(machine, ("enough", 1, word + "b", pairs)), False)
        self.assertIs(verdict_holds(loop("keep"), ("enough", 0, "a" * 20000, verdict(loop("keep"))[3])), True)

    def test_none_needs_nothing_but_the_size_nought(self):
        pairs = verdict(loop("keep"))[3]
        self.assertIs(verdict_holds(loop("keep"), ("enough", 0, None, pairs)), True)
        for size in (1, -1, 12):
            self.assertIs(verdict_holds(loop("keep"), ("enough", size, None, pairs)), False)
        self.assertIs(verdict_holds(loop("keep"), ("enough", 0, None, [])), False)

    def test_a_pair_out(self):
        for machine, (kind, size, word, pairs) in enough_verdicts():
            for at in range(len(pairs)):
                self.assertIs(verdict_holds(machine, (kind, size, word, pairs[:at] + pairs[at + 1:])), False)
            self.assertIs(verdict_holds(machine, (kind, size, word, [])), False)

    def test_a_closed_list_without_the_first_pair(self):
        machine = Machine(2, "a", [(0, "a", "keep", 1), (1, "a", "keep", 1)], lasts=[1])
        pairs = verdict(machine)[3]
        self.assertEqual(pairs, [((0,), ((0, 0, 0),)), ((1,), ((1, 0, 0),))])
        self.assertIs(verdict_holds(machine, ("enough", 0, "a", pairs[1:])), False)
        self.assertIs(verdict_holds(machine, ("enough", 0, "a", pairs[:1])), False)

    def test_twice_and_in_another_order(self):
        chance = random.Random(3)
        for machine, (kind, size, word, pairs) in enough_verdicts():
            mixed = pairs + pairs[::2]
            chance.shuffle(mixed)
            self.assertIs(verdict_holds(machine, (kind, size, word, mixed)), True)
            self.assertIs(verdict_holds(machine, (kind, size, word, pairs[::-1])), True)

    def test_strange_pairs(self):
        chance = random.Random(5)
        held = {True: 0, False: 0}
        for machine, (kind, size, word, pairs) in enough_verdicts():
            rooms = range(machine.rooms())
            strange = [((), ()), (tuple(rooms), ()), ((), tuple((room, 0, 0) for room in rooms)),
                       (pairs[0][0], pairs[-1][1]), (pairs[0][0], pairs[0][1] * 2), (pairs[0][0][::-1] * 2, pairs[0][1])]
            for turn in range(6):
                board = [(chance.choice(rooms), chance.randrange(4), chance.randrange(4)) for at in range(turn % 4)]
                strange.append((tuple(sorted({triple[0] for triple in board})), tuple(board)))
            strange.append((tuple(rooms), tuple((room, HUGE, HUGE) for room in rooms)))
            for pair in strange:
                at = chance.randrange(len(pairs) + 1)
                held[self.check(machine, (kind, size, word, pairs[:at] + [pair] + pairs[at:]))] += 1
                self.check(machine, (kind, size, word, pairs[:at] + [pair] + pairs[at + 1:]))
        self.assertGreater(min(held.values()), 100)

    def test_a_pair_that_fails(self):
        machine = Machine(2, "a", [(1, "a", "keep", 1)], lasts=[1])
        pairs = verdict(machine)[3]
        failing = ((1,), ())
        self.assertIs(verdict_holds(machine, ("enough", 0, None, pairs)), True)
        self.assertIs(verdict_holds(machine, ("enough", 0, None, pairs + [((0,), ())])), True)
        self.assertIs(verdict_holds(machine, ("enough", 0, None, pairs + [failing])), False)

    def test_what_is_handed_in_stays(self):
        machine = gaps(0)
        told = verdict(machine)
        copy = list(told[3])
        before = all_of(machine)
        self.assertIs(verdict_holds(machine, told), True)
        self.assertEqual(told[3], copy)
        self.assertEqual(all_of(machine), before)
        told[3].pop()
        self.assertIs(verdict_holds(machine, told), False)


if __name__ == "__main__":
    unittest.main()
