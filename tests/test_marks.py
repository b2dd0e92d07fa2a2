"""Points [3] and [4], and [2] where it touches onepurse.marks."""

import itertools
import unittest

from onepurse.errors import BadMark
from onepurse.marks import DEEDS, MARKS, again, behind, best, mark_of, peak, spend

HUGE = 10 ** 30 - 1
NO_MARKS = ("", " ", "Keep", "keep ", "kee", "keepcent", "\n", "none", "~")
NO_DEEDS = NO_MARKS + ("dear", "shut")


def rows_of_deeds(longest):
    for length in range(longest + 1):
        yield from itertools.product(("keep", "cent", "fill", "coin", "brim"), repeat=length)


class Tuples(unittest.TestCase):
    def test_deeds(self):
        self.assertIsInstance(DEEDS, tuple)
        self.assertEqual(DEEDS, ("keep", "cent", "fill", "coin", "brim"))

    def test_marks(self):
        self.assertIsInstance(MARKS, tuple)
        self.assertEqual(MARKS, ("brim", "fill", "keep", "cent", "coin", "dear", "shut"))


class Spend(unittest.TestCase):
    def test_each_deed_on_many_pairs(self):
        numbers = (0, 1, 2, 5, 60, HUGE - 1, HUGE)
        for lesser, greater in itertools.product(numbers, repeat=2):
            told = {
                "keep": (lesser, greater),
                "cent": (lesser + 1, greater),
                "fill": (0, greater),
                "coin": (0, greater + 1),
                "brim": (0, 0),
            }
            for deed, pair in told.items():
                found = spend((lesser, greater), deed)
                self.assertEqual(found, pair)
                self.assertIsInstance(found, tuple)

    def test_refused(self):
        for text in NO_DEEDS:
            with self.assertRaises(BadMark, msg=text):
                spend((0, 0), text)

    def test_by_names(self):
        self.assertEqual(spend(deed="coin", purses=(3, 4)), (0, 5))

    def test_a_list_is_taken_and_stays(self):
        purses = [1, 2]
        self.assertEqual(spend(purses, "cent"), (2, 2))
        self.assertEqual(spend(purses, "keep"), (1, 2))
        self.assertEqual(purses, [1, 2])


class Peak(unittest.TestCase):
    def test_none(self):
        self.assertEqual(peak([]), 0)
        self.assertEqual(peak(()), 0)

    def test_told_rows(self):
        rows = (
            (["keep"], 0), (["cent"], 1), (["fill"], 0), (["coin"], 1), (["brim"], 0),
            (["cent", "cent", "fill", "cent"], 2),
            (["cent", "cent", "coin", "cent"], 2),
            (["cent", "coin", "cent", "coin", "coin"], 3),
            (["coin", "coin", "fill", "coin"], 3),
            (["coin", "coin", "brim", "coin", "cent"], 2),
            (["cent", "cent", "cent", "brim"], 3),
            (["coin", "cent"], 1),
        )
        for row, number in rows:
            self.assertEqual(peak(row), number, row)
            self.assertEqual(peak(tuple(row)), number, row)

    def test_many(self):
        self.assertEqual(peak(["cent"] * 400), 400)
        self.assertEqual(peak(["coin"] * 400), 400)
        self.assertEqual(peak(["cent", "fill"] * 200), 1)
        self.assertEqual(peak(["cent", "coin"] * 200), 200)
        self.assertEqual(peak(["cent", "coin", "brim", "keep"] * 100), 1)

    def test_it_is_the_greatest_of_all_moments(self):
        for row in rows_of_deeds(5):
            purses, greatest = (0, 0), 0
            for deed in row:
                purses = spend(purses, deed)
                greatest = max([greatest, *purses])
            self.assertEqual(peak(row), greatest)

    def test_refused_at_any_place(self):
        for text in NO_DEEDS:
            for row in ([text], ["cent", text], [text, "cent"], ["cent", text, "brim"]):
                with self.assertRaises(BadMark, msg=row):
                    peak(row)

    def test_row_stays_and_by_name(self):
        row = ["cent", "coin", "cent"]
        self.assertEqual(peak(deeds=row), 1)
        self.assertEqual(row, ["cent", "coin", "cent"])


class MarkOf(unittest.TestCase):
    def test_none_and_one(self):
        self.assertEqual(mark_of([]), "keep")
        self.assertEqual(mark_of(()), "keep")
        for deed in DEEDS:
            self.assertEqual(mark_of([deed]), deed)

    def test_the_latest_deed_is_made(self):
        order = ("keep", "cent", "fill", "coin", "brim")
        for row in rows_of_deeds(4):
            told = order[max([0] + [order.index(deed) for deed in row])]
            self.assertEqual(mark_of(row), told)
            self.assertEqual(mark_of(list(row)), told)

    def test_refused_at_any_place(self):
        for text in NO_DEEDS:
            for row in ([text], ["brim", text], [text, "brim"], ["keep", text, "brim"]):
                with self.assertRaises(BadMark, msg=row):
                    mark_of(row)

    def test_row_stays_and_by_name(self):
        row = ["cent", "keep"] * 200
        self.assertEqual(mark_of(deeds=row), "cent")
        self.assertEqual(row, ["cent", "keep"] * 200)

    def test_rows_gone_many_times(self):
        for row in rows_of_deeds(5):
            mark = mark_of(row)
            for goings in (1, 2, 3, 7):
                found = peak(row * goings)
                if mark in ("cent", "coin"):
                    self.assertGreaterEqual(found, goings, row)
                else:
                    self.assertLessEqual(found, 2 * peak(row), row)


class Behind(unittest.TestCase):
    def test_all_pairs(self):
        order = ("keep", "cent", "fill", "coin", "brim", "dear", "shut")
        for one, other in itertools.product(order, repeat=2):
            later = order[max(order.index(one), order.index(other))]
            self.assertEqual(behind(one, other), later)

    def test_refused(self):
        for text in NO_MARKS:
            for one, other in ((text, "shut"), ("shut", text), (text, text)):
                with self.assertRaises(BadMark, msg=(one, other)):
                    behind(one, other)

    def test_by_names(self):
        self.assertEqual(behind(other="cent", one="fill"), "fill")


class Best(unittest.TestCase):
    def test_none_and_one(self):
        self.assertEqual(best([]), "shut")
        self.assertEqual(best(()), "shut")
        for mark in MARKS:
            self.assertEqual(best([mark]), mark)

    def test_many(self):
        order = ("brim", "fill", "keep", "cent", "coin", "dear", "shut")
        for length in (2, 3, 4):
            for row in itertools.product(order, repeat=length):
                told = order[min(order.index(mark) for mark in row)]
                self.assertEqual(best(row), told)
                self.assertEqual(best(list(row)), told)
        self.assertEqual(best(["shut"] * 399 + ["dear"]), "dear")

    def test_refused_at_any_place(self):
        for text in NO_MARKS:
            for row in ([text], ["brim", text], [text, "brim"], ["shut", text, "brim"]):
                with self.assertRaises(BadMark, msg=row):
                    best(row)

    def test_row_stays_and_by_name(self):
        row = ["shut", "cent", "fill"]
        self.assertEqual(best(marks=row), "fill")
        self.assertEqual(row, ["shut", "cent", "fill"])


class Again(unittest.TestCase):
    def test_each_mark(self):
        told = {"brim": "brim", "fill": "fill", "keep": "keep", "cent": "dear", "coin": "dear", "dear": "dear",
                "shut": "shut"}
        for mark, often in told.items():
            self.assertEqual(again(mark), often)
            self.assertEqual(again(mark=mark), often)

    def test_refused(self):
        for text in NO_MARKS:
            with self.assertRaises(BadMark, msg=text):
                again(text)


if __name__ == "__main__":
    unittest.main()
