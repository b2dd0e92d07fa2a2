"""Points [11] and [12], what [4] says of marks, and [2] where it touches onepurse.tables."""

import itertools
import random
import unittest

from onepurse.errors import BadLetters, BadPattern, BadSize, BadTable, Unlike
from onepurse.machines import Machine
from onepurse.tables import is_steady, letter_table, pattern_table, raised, read_off, still_table, times
from tests.samples import (BEST_FIRST, DEEDS, HUGE, MADE_LAST, all_of, loop, made_by_chance, many_machines, slow_best,
                           slow_closing, slow_letter_table, slow_pattern_table, slow_raised, slow_times, small, words_of)

NO_LETTERS = ("", "c", "ab", "aa", "A", " ", "\n", "-", "(")
NO_PATTERNS = ("", "(", ")", "()", ")(", "a(", "a)", "(a", "(a))", "((a)", "a()", "(())", " ", "a b", "a\n", "A", "1",
               "a*", "[a]", "-", "c", "a(c)", "abc", "(" * 61 + "a" + ")" * 61)


def tables_by_chance(seed, rooms, count, marks=BEST_FIRST):
    chance = random.Random(seed)
    return [tuple(tuple(chance.choices(marks, k=rooms)) for room in range(rooms)) for table in range(count)]


def steady_tables():
    """Steady tables of 1 to 4 rooms: of closings, and powers of tables that are made by chance."""
    found = {((mark,),) for mark in BEST_FIRST}
    for seed in range(150):
        for table in tables_by_chance(seed, 2 + seed % 3, 4):
            power = table
            for k in range(12):
                power = slow_times(power, table)
                if slow_times(power, power) == power:
                    found.add(power)
    for machine in many_machines(40):
        found.update(table for table in slow_closing(machine, 60) or () if slow_times(table, table) == table)
    return sorted(found)


STEADY = steady_tables()


def pattern_by_chance(chance, depth):
    """A pattern with so many brackets within one another."""
    parts = [chance.choice(("a", "b", "ab")) for part in range(chance.randrange(1, 3))]
    if depth:
        parts.insert(chance.randrange(len(parts) + 1), f"({pattern_by_chance(chance, depth - 1)})")
        if chance.random() < 0.3:
            return parts[0] if parts[0][0] == "(" else "".join(parts)
    return "".join(parts)


def reduces(text):
    """Whether a text of a, b and brackets is a pattern, by making it shorter until nothing is left to do."""
    text = text.replace("a", "x").replace("b", "x")
    while text != text.replace("(x)", "x").replace("xx", "x"):
        text = text.replace("(x)", "x").replace("xx", "x")
    return text == "x"


def as_lists(table):
    return [list(row) for row in table]


def is_table(thing):
    return isinstance(thing, tuple) and all(isinstance(row, tuple) and len(row) == len(thing) for row in thing)


class LetterTable(unittest.TestCase):
    def test_several_arrows_and_none(self):
        told = (("shut", "keep", "coin"), ("shut", "coin", "shut"), ("shut", "shut", "brim"))
        self.assertEqual(letter_table(small(), "a"), told)
        told = (("cent", "shut", "shut"), ("fill", "shut", "cent"), ("shut", "coin", "shut"))
        self.assertEqual(letter_table(small(), "b"), told)
        self.assertEqual(letter_table(Machine(2, "xz"), "z"), (("shut", "shut"), ("shut", "shut")))

    def test_the_best_deed_is_taken(self):
        for count in range(6):
            for deeds in itertools.combinations(DEEDS, count):
                machine = Machine(1, "a", [(0, "a", deed, 0) for deed in deeds])
                self.assertEqual(letter_table(machine, "a"), ((slow_best(deeds),),))

    def test_by_chance(self):
        for machine in many_machines(60, most_rooms=5, most_arrows=30):
            for letter in "ab":
                found = letter_table(machine, letter)
                self.assertEqual(found, slow_letter_table(machine, letter))
                self.assertTrue(is_table(found))

    def test_refused(self):
        for letter in NO_LETTERS:
            with self.assertRaises(BadLetters, msg=letter):
                letter_table(small(), letter)
            with self.assertRaises(BadLetters, msg=letter):
                letter_table(Machine(1, "b"), letter)

    def test_by_names_and_the_machine_stays(self):
        machine = small()
        before = all_of(machine)
        self.assertEqual(letter_table(letter="a", machine=machine), slow_letter_table(machine, "a"))
        self.assertEqual(all_of(machine), before)


class StillTable(unittest.TestCase):
    def test_each_count_of_rooms(self):
        self.assertEqual(still_table(1), (("keep",),))
        self.assertEqual(still_table(2), (("keep", "shut"), ("shut", "keep")))
        for rooms in range(1, 9):
            found = still_table(rooms)
            self.assertTrue(is_table(found))
            self.assertEqual(len(found), rooms)
            for one, other in itertools.product(range(rooms), repeat=2):
                self.assertEqual(found[one][other], "keep" if one == other else "shut")

    def test_times_it_nothing_changes(self):
        for rooms in range(1, 9):
            for table in tables_by_chance(rooms, rooms, 5):
                self.assertEqual(times(still_table(rooms), table), table)
                self.assertEqual(times(table, still_table(rooms)), table)

    def test_refused(self):
        for rooms in (0, 9, -1, HUGE, -HUGE):
            with self.assertRaises(BadSize, msg=rooms):
                still_table(rooms)

    def test_by_name(self):
        self.assertEqual(still_table(rooms=1), (("keep",),))


class Times(unittest.TestCase):
    def test_one_room_each_two_marks(self):
        for one, other in itertools.product(MADE_LAST, repeat=2):
            told = MADE_LAST[max(MADE_LAST.index(one), MADE_LAST.index(other))]
            self.assertEqual(times(((one,),), ((other,),)), ((told,),))

    def test_shut_on_either_side(self):
        for mark in MADE_LAST:
            self.assertEqual(times((("shut",),), ((mark,),)), (("shut",),))
            self.assertEqual(times(((mark,),), (("shut",),)), (("shut",),))

    def test_the_best_over_all_rooms(self):
        for one, other, another, last in itertools.product(BEST_FIRST, repeat=4):
            first = ((one, other), ("shut", "shut"))
            second = ((another, "shut"), (last, "shut"))
            found = times(first, second)
            self.assertEqual(found, slow_times(first, second))
            self.assertEqual(found[1], ("shut", "shut"))

    def test_by_chance(self):
        for rooms in range(1, 9):
            for one, other in itertools.product(tables_by_chance(rooms, rooms, 6), repeat=2):
                found = times(one, other)
                self.assertEqual(found, slow_times(one, other))
                self.assertTrue(is_table(found))

    def test_it_does_not_matter_which_two_first(self):
        for rooms in (2, 3):
            for one, other, another in itertools.product(tables_by_chance(9, rooms, 8), repeat=3):
                self.assertEqual(times(times(one, other), another), times(one, times(other, another)))

    def test_words_lead_as_their_tables_tell(self):
        for machine in many_machines(30):
            for word in words_of("ab", 4):
                if word:
                    table = letter_table(machine, word[0])
                    for letter in word[1:]:
                        table = times(table, letter_table(machine, letter))
                    self.assertIs(read_off(machine, table) != "shut", machine.lets(word))

    def test_refused(self):
        for one, other in itertools.permutations(range(1, 9), 2):
            with self.assertRaises(Unlike):
                times(still_table(one), still_table(other))

    def test_lists_and_tuples_are_alike(self):
        for one, other in itertools.product(tables_by_chance(4, 3, 5), repeat=2):
            told = times(one, other)
            for first, second in itertools.product((one, list(one), as_lists(one)), (other, tuple(as_lists(other)))):
                found = times(first, second)
                self.assertEqual(found, told)
                self.assertTrue(is_table(found))

    def test_what_is_handed_in_stays_and_by_names(self):
        one, other = [["cent", "keep"], ["shut", "brim"]], [["fill", "dear"], ["coin", "keep"]]
        found = times(other=other, one=one)
        self.assertEqual(one, [["cent", "keep"], ["shut", "brim"]])
        self.assertEqual(other, [["fill", "dear"], ["coin", "keep"]])
        one[0][0] = other[0][0] = "shut"
        self.assertEqual(found, (("fill", "keep"), ("brim", "brim")))


class Steady(unittest.TestCase):
    def test_told_ones(self):
        for mark in BEST_FIRST:
            self.assertIs(is_steady(((mark,),)), True, mark)
        self.assertIs(is_steady((("shut", "keep"), ("keep", "shut"))), False)
        self.assertIs(is_steady((("keep", "shut"), ("shut", "coin"))), True)
        self.assertIs(is_steady((("shut", "cent"), ("shut", "shut"))), False)
        self.assertIs(is_steady((("keep", "cent"), ("shut", "keep"))), True)
        self.assertIs(is_steady((("keep", "cent"), ("shut", "coin"))), True)
        self.assertIs(is_steady((("coin", "cent"), ("shut", "coin"))), False)
        for rooms in range(1, 9):
            self.assertIs(is_steady(still_table(rooms)), True)

    def test_all_of_two_rooms(self):
        for marks in itertools.product(BEST_FIRST, repeat=4):
            table = (marks[:2], marks[2:])
            self.assertIs(is_steady(table), slow_times(table, table) == table, table)

    def test_by_chance(self):
        for rooms in range(1, 9):
            for table in tables_by_chance(rooms, rooms, 20):
                self.assertIs(is_steady(table), slow_times(table, table) == table)
        for table in STEADY:
            self.assertIs(is_steady(table), True)

    def test_only_the_last_row_is_not(self):
        self.assertIs(is_steady((("keep", "shut", "shut"), ("shut", "keep", "shut"), ("shut", "cent", "cent"))), True)
        self.assertIs(is_steady((("keep", "shut", "shut"), ("shut", "keep", "shut"), ("shut", "cent", "brim"))), False)

    def test_lists_and_tuples_are_alike(self):
        for table in STEADY[::7] + tables_by_chance(3, 3, 30):
            told = slow_times(table, table) == table
            for some in (table, list(table), as_lists(table), tuple(as_lists(table))):
                before = as_lists(some)
                self.assertIs(is_steady(some), told)
                self.assertEqual(as_lists(some), before)
        self.assertIs(is_steady(table=[["keep"]]), True)


class Raised(unittest.TestCase):
    def test_told_ones(self):
        told = {"brim": "brim", "fill": "fill", "keep": "keep", "cent": "dear", "coin": "dear", "dear": "dear",
                "shut": "shut"}
        for mark, often in told.items():
            self.assertEqual(raised(((mark,),)), ((often,),))
        self.assertEqual(raised((("keep", "coin"), ("shut", "keep"))), (("keep", "coin"), ("shut", "keep")))
        self.assertEqual(raised((("keep", "coin"), ("shut", "coin"))), (("keep", "coin"), ("shut", "dear")))
        self.assertEqual(raised((("cent", "coin"), ("shut", "coin"))), (("dear", "dear"), ("shut", "dear")))
        self.assertEqual(raised((("cent", "fill"), ("shut", "fill"))), (("dear", "fill"), ("shut", "fill")))

    def test_steady_ones(self):
        self.assertGreater(len(STEADY), 200)
        changed = 0
        for table in STEADY:
            found = raised(table)
            self.assertEqual(found, slow_raised(table), table)
            self.assertTrue(is_table(found))
            changed += found != table
        self.assertGreater(changed, 30)

    def test_a_raised_one_is_steady_and_stays_itself(self):
        for table in STEADY:
            found = raised(table)
            self.assertIs(is_steady(found), True, table)
            self.assertEqual(raised(found), found, table)

    def test_refused(self):
        refused = 0
        for table in tables_by_chance(1, 2, 60) + tables_by_chance(2, 3, 60) + tables_by_chance(3, 8, 5):
            if slow_times(table, table) != table:
                refused += 1
                for some in (table, as_lists(table)):
                    with self.assertRaises(BadTable):
                        raised(some)
        self.assertGreater(refused, 50)

    def test_lists_and_tuples_are_alike(self):
        for table in STEADY[::5]:
            for some in (list(table), as_lists(table), tuple(as_lists(table))):
                before = as_lists(some)
                found = raised(some)
                self.assertEqual(found, slow_raised(table))
                self.assertTrue(is_table(found))
                self.assertEqual(as_lists(some), before)
        self.assertEqual(raised(table=[["cent"]]), (("dear",),))


class ReadOff(unittest.TestCase):
    def test_none_one_and_several_rooms(self):
        table = (("shut", "cent", "coin"), ("dear", "keep", "fill"), ("brim", "shut", "dear"))
        for firsts, lasts, mark in (
            ([], [], "shut"), ([], [0, 1, 2], "shut"), ([0, 1, 2], [], "shut"), ([0], [0], "shut"), ([0], [1], "cent"),
            ([0], [1, 2], "cent"), ([1], [0], "dear"), ([1, 0], [0], "dear"), ([0, 1], [2, 1], "fill"),
            ([2], [1, 2], "dear"), ([0, 1, 2], [0, 1, 2], "brim"),
        ):
            machine = Machine(3, "a", firsts=firsts, lasts=lasts)
            self.assertEqual(read_off(machine, table), mark, (firsts, lasts))
            self.assertEqual(read_off(machine, as_lists(table)), mark, (firsts, lasts))

    def test_by_chance(self):
        for seed in range(60):
            machine = made_by_chance(seed, 1 + seed % 8, "a", 3)
            for table in tables_by_chance(seed, 1 + seed % 8, 4, BEST_FIRST[seed % 6:]):
                marks = [table[one][other] for one in machine.firsts() for other in machine.lasts()]
                self.assertEqual(read_off(machine, table), slow_best(marks))

    def test_refused(self):
        for one, other in itertools.permutations(range(1, 9), 2):
            with self.assertRaises(Unlike):
                read_off(Machine(one, "a"), still_table(other))
            with self.assertRaises(Unlike):
                read_off(Machine(one, "a", firsts=[], lasts=[]), still_table(other))

    def test_by_names_and_what_is_handed_in_stays(self):
        table = [["cent"]]
        self.assertEqual(read_off(table=table, machine=loop("keep")), "cent")
        self.assertEqual(table, [["cent"]])


class PatternTable(unittest.TestCase):
    def test_letters(self):
        for machine in many_machines(20):
            for letter in "ab":
                self.assertEqual(pattern_table(machine, letter), slow_letter_table(machine, letter))

    def test_all_short_patterns(self):
        count = {True: 0, False: 0}
        texts = ["".join(signs) for length in range(1, 7) for signs in itertools.product("ab()", repeat=length)]
        machines = many_machines(24)
        for text in texts:
            told_texts = text.replace("a", "x").replace("b", "x")
            while told_texts != told_texts.replace("(x)", "x").replace("xx", "x"):
                told_texts = told_texts.replace("(x)", "x").replace("xx", "x")
            for machine in machines if told_texts == "x" else machines[:2]:
                if told_texts != "x":
                    self.assertRaises(BadPattern, pattern_table, machine, text)
                    continue
                told, found = slow_pattern_table(machine, text), pattern_table(machine, text)
                self.assertEqual(found, told, (all_of(machine), text))
                self.assertTrue(found is None or is_table(found))
                count[found is None] += 1
        self.assertGreater(min(count.values()), 500)

    def test_brackets_within_brackets(self):
        arrows = [(0, "a", "cent", 0), (0, "b", "coin", 0), (0, "c", "fill", 0)]
        machine = Machine(1, "abc", arrows)
        told = {"a": "cent", "(a)": "dear", "ac": "fill", "(ac)": "fill", "(acb)": "dear", "((ac)b)": "dear",
                "(ac)b": "coin", "((ac)a)": "fill", "((a)c)": "dear", "c(a(c))": "fill", "(((c)))": "fill"}
        for pattern, mark in told.items():
            self.assertEqual(pattern_table(machine, pattern), ((mark,),), pattern)

    def test_up_to_three_brackets_within_one_another_and_bent(self):
        chance = random.Random(12)
        machines = many_machines(30) + many_machines(10, most_arrows=16)
        count = {"table": 0, "none": 0, "bad": 0}
        for turn in range(900):
            machine = chance.choice(machines)
            whole = pattern_by_chance(chance, 1 + turn % 3)
            at = chance.randrange(len(whole) + 1)
            bent = whole[:at] + chance.choice(("", "a", "(", ")", "()", ")(", "(b)")) + whole[at + turn % 2:]
            for text in (whole, bent):
                if not reduces(text):
                    count["bad"] += 1
                    self.assertRaises(BadPattern, pattern_table, machine, text)
                    continue
                told = slow_pattern_table(machine, text)
                count["none" if told is None else "table"] += 1
                self.assertEqual(pattern_table(machine, text), told, (all_of(machine), text))
                if told is not None:
                    marks = [told[one][other] for one in machine.firsts() for other in machine.lasts()]
                    self.assertEqual(read_off(machine, pattern_table(machine, text)), slow_best(marks))
                    with self.assertRaises(Unlike):
                        read_off(Machine(5, "ab"), pattern_table(machine, text))
                    with self.assertRaises(Unlike):
                        times(pattern_table(machine, text), still_table(5))
        self.assertGreater(min(count.values()), 150, count)

    def test_deep_and_long_ones(self):
        machine = loop("fill")
        self.assertEqual(pattern_table(machine, "(" * 60 + "a" + ")" * 60), (("fill",),))
        self.assertEqual(pattern_table(machine, "a" * 400), (("fill",),))
        ring = Machine(8, "a", [(room, "a", "cent", (room + 1) % 8) for room in range(8)])
        self.assertEqual(pattern_table(ring, "a" * 400)[0], ("cent",) + ("shut",) * 7)
        self.assertEqual(pattern_table(ring, "(" + "a" * 392 + ")aaa")[0][3], "dear")
        self.assertIsNone(pattern_table(ring, "(" + "a" * 391 + ")aaa"))

    def test_none_where_not_steady(self):
        swap = Machine(2, "ab", [(0, "a", "keep", 1), (1, "a", "keep", 0), (0, "b", "cent", 0)])
        for pattern in ("(a)", "b(a)", "(a)b", "(b(a))", "((a))", "(aa)(a)", "((aa)a)", "(aaa)"):
            self.assertIsNone(pattern_table(swap, pattern), pattern)
        for pattern in ("(aa)", "a", "(b)", "a(aa)a", "((aa)aa)", "(aa(b))"):
            self.assertIsNotNone(pattern_table(swap, pattern), pattern)

    def test_refused(self):
        for pattern in NO_PATTERNS:
            with self.assertRaises(BadPattern, msg=pattern):
                pattern_table(small(), pattern)
        swap = Machine(2, "ab", [(0, "a", "keep", 1), (1, "a", "keep", 0)])
        for pattern in ("(a)c", "(a)(", "(a)()", "(a))"):
            with self.assertRaises(BadPattern, msg=pattern):
                pattern_table(swap, pattern)

    def test_by_names_and_the_machine_stays(self):
        machine = small()
        before = all_of(machine)
        self.assertEqual(pattern_table(pattern="ab", machine=machine), slow_pattern_table(machine, "ab"))
        self.assertEqual(all_of(machine), before)


if __name__ == "__main__":
    unittest.main()
