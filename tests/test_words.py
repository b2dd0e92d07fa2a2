"""Point [7], and [2] where it touches onepurse.words."""

import itertools
import unittest

from onepurse.errors import BadPattern, BadSize, TooWide
from onepurse.words import MOST_DEPTH, is_pattern, length_of, unrolled

PATTERNS = ("a", "ab", "(a)", "((a))", "a(b)", "(a)b", "(a)(b)", "a(b(a))", "a(b)a(ab)", "(a(b))((a)b)", "(((a)b)a)b")
NO_PATTERNS = ("", "(", ")", "()", ")(", "a(", "a)", "(a", "(a))", "((a)", "a()", "(a())", "(())", "()a", "a)b(",
               " ", "a b", "a\n", "A", "1", "a*", "[a]", "-", "a(B)")
OUTSIDE = (-(10 ** 30) + 1, -1, 0, 401, 10 ** 30 - 1)


def deep(pairs):
    return "(" * pairs + "a" + ")" * pairs


def one_step(pattern, goings):
    """The pattern with its first innermost pair written out: a slow way to the same word."""
    end = pattern.index(")")
    start = pattern.rindex("(", 0, end)
    return pattern[:start] + pattern[start + 1:end] * goings + pattern[end + 1:]


def slow_word(pattern, goings):
    while "(" in pattern:
        pattern = one_step(pattern, goings)
    return pattern


def slow_is_pattern(text, letters):
    """Takes away pairs with something in them until only letters are left."""
    if text == "" or any(sign not in letters + "()" for sign in text):
        return False
    ahead = ""
    while ahead != text:
        ahead = text
        text = text.replace("(x)", "x")
        for letter in letters:
            text = text.replace(letter, "x")
        text = text.replace("xx", "x")
    return text == "x"


class IsPattern(unittest.TestCase):
    def test_most_depth(self):
        self.assertEqual(MOST_DEPTH, 60)

    def test_patterns(self):
        for text in PATTERNS:
            self.assertIs(is_pattern(text, "ab"), True, text)

    def test_others(self):
        for text in NO_PATTERNS:
            self.assertIs(is_pattern(text, "ab"), False, text)

    def test_all_short_texts(self):
        for length in range(8):
            for signs in itertools.product("ab()", repeat=length):
                text = "".join(signs)
                self.assertIs(is_pattern(text, "ab"), slow_is_pattern(text, "ab"), text)

    def test_only_the_given_letters(self):
        self.assertIs(is_pattern("a(c)", "ac"), True)
        self.assertIs(is_pattern("a(b)", "ac"), False)
        self.assertIs(is_pattern("b", "a"), False)
        self.assertIs(is_pattern("z", "xyz"), True)

    def test_depth(self):
        self.assertIs(is_pattern(deep(60), "a"), True)
        self.assertIs(is_pattern(deep(61), "a"), False)
        self.assertIs(is_pattern(deep(60) + deep(60), "a"), True)
        self.assertIs(is_pattern(deep(60) + deep(61), "a"), False)
        self.assertIs(is_pattern("(a)" * 100, "a"), True)
        self.assertIs(is_pattern(deep(9999), "a"), False)

    def test_long_texts(self):
        self.assertIs(is_pattern("ab" * 10000, "ab"), True)
        self.assertIs(is_pattern("(" * 20000, "ab"), False)

    def test_by_names(self):
        self.assertIs(is_pattern(letters="a", text="(a)"), True)


class Lengths(unittest.TestCase):
    def test_told_ones(self):
        self.assertEqual(length_of("a(b(a))", 1), 3)
        self.assertEqual(length_of("a(b(a))", 2), 7)
        self.assertEqual(length_of("a(b(a))", 400), 1 + 400 * 401)
        self.assertEqual(length_of("abc", 400), 3)
        self.assertEqual(length_of("(a)", 400), 400)

    def test_like_the_words(self):
        for pattern in PATTERNS:
            for goings in (1, 2, 3, 5):
                self.assertEqual(length_of(pattern, goings), len(slow_word(pattern, goings)))

    def test_great_ones(self):
        self.assertEqual(length_of(deep(60), 400), 400 ** 60)
        self.assertEqual(length_of(deep(60) * 3, 400), 3 * 400 ** 60)
        self.assertEqual(length_of(deep(60), 1), 1)
        self.assertEqual(length_of("a" * 400, 1), 400)

    def test_any_small_letters(self):
        self.assertEqual(length_of("abcdefghijklmnopqrstuvwxyz", 1), 26)

    def test_by_names(self):
        self.assertEqual(length_of(goings=2, pattern="(a)"), 2)


class Unrolled(unittest.TestCase):
    def test_told_ones(self):
        self.assertEqual(unrolled("a(b(a))", 1), "aba")
        self.assertEqual(unrolled("a(b(a))", 2), "abaabaa")
        self.assertEqual(unrolled("(ab)c", 400), "ab" * 400 + "c")
        self.assertEqual(unrolled("abc", 400), "abc")
        self.assertEqual(unrolled("xyz(q)", 3), "xyzqqq")

    def test_like_a_slow_way(self):
        for pattern in PATTERNS:
            for goings in (1, 2, 3, 5):
                self.assertEqual(unrolled(pattern, goings), slow_word(pattern, goings))

    def test_all_short_patterns(self):
        for length in range(1, 8):
            for signs in itertools.product("ab()", repeat=length):
                text = "".join(signs)
                if slow_is_pattern(text, "ab"):
                    self.assertEqual(unrolled(text, 2), slow_word(text, 2))
                else:
                    self.assertRaises(BadPattern, unrolled, text, 2)

    def test_deep_ones(self):
        self.assertEqual(unrolled(deep(60), 1), "a")
        self.assertEqual(unrolled(deep(10), 2), "a" * 1024)

    def test_most_letters(self):
        self.assertEqual(unrolled("(abcde)", 400), "abcde" * 400)
        self.assertEqual(unrolled("(a)" * 5, 400), "a" * 2000)
        for pattern in ("(abcde)a", "(a)" * 5 + "b", deep(11), deep(60)):
            with self.assertRaises(TooWide) as caught:
                unrolled(pattern, 400)
            self.assertEqual(caught.exception.most, 2000)
        self.assertEqual(unrolled("a" * 2000, 1), "a" * 2000)
        with self.assertRaises(TooWide) as caught:
            unrolled("a" * 2001, 1)
        self.assertEqual(caught.exception.most, 2000)

    def test_by_names(self):
        self.assertEqual(unrolled(goings=2, pattern="(a)"), "aa")


class Refusals(unittest.TestCase):
    def test_no_patterns(self):
        for function in (length_of, unrolled):
            for text in NO_PATTERNS + (deep(61), "(" * 400):
                with self.assertRaises(BadPattern, msg=text):
                    function(text, 1)

    def test_goings(self):
        for function in (length_of, unrolled):
            for goings in OUTSIDE:
                with self.assertRaises(BadSize, msg=goings):
                    function("a", goings)

    def test_pattern_ahead_of_goings(self):
        for function in (length_of, unrolled):
            for goings in OUTSIDE:
                with self.assertRaises(BadPattern):
                    function("a(", goings)

    def test_goings_ahead_of_width(self):
        for goings in OUTSIDE:
            with self.assertRaises(BadSize):
                unrolled("a" * 2001, goings)

    def test_pattern_ahead_of_width(self):
        with self.assertRaises(BadPattern):
            unrolled("a" * 2001 + ")", 1)


if __name__ == "__main__":
    unittest.main()
