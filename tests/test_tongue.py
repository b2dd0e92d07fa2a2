"""Points [19] and [20], and [2] where it touches onepurse.tongue."""

import itertools
import random
import re
import unittest

from onepurse.errors import BadLetters, BadText, BadTree, BadWord, Full
from onepurse.prices import price
from onepurse.tongue import machine_of, read_tolls, readings, tolls_text
from tests.samples import all_of, slow_peak, words_of

A, B, C = ("letter", "a", "keep"), ("letter", "b", "keep"), ("letter", "c", "keep")
NOTHING = ("nothing",)
SIGNS = {"cent": "!", "fill": ".", "coin": "$", "brim": ":", "keep": ""}


def is_tolls(text):
    """Whether a text is tolls, by making it shorter until nothing is left to do."""
    text = re.sub(r"[a-z][!.$:]?|-", "X", text)
    while True:
        shorter = re.sub(r"X[*?]|XX|X\|X|\(X\)", "X", text, count=1)
        if shorter == text:
            return text == "X"
        text = shorter


def may_go_on(text):
    """Whether a text is the beginning of some tolls."""
    return any(is_tolls(text + more + ")" * count) for more in ("", "a") for count in range(len(text) + 1))


def fault(text):
    """The place of BadText, or None where the text is tolls."""
    if is_tolls(text):
        return None
    return next((at for at in range(len(text)) if not may_go_on(text[:at + 1])), len(text))


def split_at(text, is_cut):
    """The places of a text outside of all brackets at which it may be cut."""
    depth, places = 0, []
    for at, sign in enumerate(text):
        if depth == 0 and at and is_cut(text, at):
            places.append(at)
        depth += {"(": 1, ")": -1}.get(sign, 0)
    return places


def slow_tree(text):
    """The tree of tolls, by taking apart from the right."""
    bars = split_at(text, lambda told, at: told[at] == "|")
    if bars:
        return ("either", slow_tree(text[:bars[-1]]), slow_tree(text[bars[-1] + 1:]))
    cuts = split_at(text, lambda told, at: told[at] not in "*?!.$:)")
    if cuts:
        return ("row", slow_tree(text[:cuts[-1]]), slow_tree(text[cuts[-1]:]))
    if text[-1] in "*?":
        return ("many" if text[-1] == "*" else "maybe", slow_tree(text[:-1]))
    if text[0] == "(":
        return slow_tree(text[1:-1])
    if text == "-":
        return NOTHING
    return ("letter", text[0], {sign: deed for deed, sign in SIGNS.items()}[text[1:]])


def all_trees(leaves, depth):
    """All trees of so many levels over some leaves."""
    found = list(leaves)
    for level in range(depth):
        found = list(leaves) + [(kind, tree) for kind in ("many", "maybe") for tree in found] + [
            (kind, one, other) for kind in ("row", "either") for one in found for other in found]
    return found


def tree_by_chance(chance, letters, count):
    """A tree with so many letters at most."""
    if count < 2:
        deed = chance.choice(("keep", "cent", "fill", "coin", "brim"))
        return chance.choice((("letter", chance.choice(letters), deed),) * 5 + (NOTHING,))
    kind = chance.choice(("row", "row", "either", "many", "maybe"))
    if kind in ("many", "maybe"):
        return (kind, tree_by_chance(chance, letters, count - 1))
    cut = chance.randrange(1, count)
    return (kind, tree_by_chance(chance, letters, cut), tree_by_chance(chance, letters, count - cut))


def some_trees(count, letters="ab", most=7):
    chance = random.Random(19)
    return [tree_by_chance(chance, letters, 1 + at % most) for at in range(count)]


def slow_readings(tree, word):
    """The set of all readings, as [20] says it."""
    kind = tree[0]
    if kind == "letter":
        return {(tree[2],)} if word == tree[1] else set()
    if kind == "nothing":
        return {()} if word == "" else set()
    if kind == "either":
        return slow_readings(tree[1], word) | slow_readings(tree[2], word)
    if kind == "maybe":
        return slow_readings(tree[1], word) | ({()} if word == "" else set())
    if kind == "row":
        return {one + other for at in range(len(word) + 1) for one in slow_readings(tree[1], word[:at])
                for other in slow_readings(tree[2], word[at:])}
    found = {()} if word == "" else set()
    for at in range(1, len(word) + 1):
        ahead = slow_readings(tree[1], word[:at])
        if ahead:
            found |= {one + other for one in ahead for other in slow_readings(tree, word[at:])}
    return found


def with_places(tree, count):
    """The tree with numbers of places instead of deeds, and how many places there are."""
    if tree[0] == "letter":
        return ("letter", "a", count + 1), count + 1
    parts = []
    for part in tree[1:]:
        part, count = with_places(part, count)
        parts.append(part)
    return (tree[0], *parts), count


def letters_of(tree):
    if tree[0] == "letter":
        return [tree]
    return [leaf for part in tree[1:] for leaf in letters_of(part)]


def slow_machine(tree, letters, longest):
    """Rooms, letters, arrows, first and last rooms, by all rows of places that readings go through."""
    marked, count = with_places(tree, 0)
    rows = [(0, *row) for length in range(longest + 1) for row in slow_readings(marked, "a" * length)]
    leaves = [None, *letters_of(tree)]
    steps = {(one, other) for row in rows for one, other in zip(row, row[1:])}
    arrows = sorted((one, leaves[other][1], leaves[other][2], other) for one, other in steps)
    return (count + 1, letters, arrows, [0], sorted({row[-1] for row in rows}))


class ReadTolls(unittest.TestCase):
    def check(self, text):
        """Looks at what is told of a text, and tells whether it is tolls."""
        at = fault(text)
        if at is None:
            self.assertEqual(read_tolls(text), slow_tree(text), text)
        else:
            with self.assertRaises(BadText, msg=text) as caught:
                read_tolls(text)
            self.assertEqual(caught.exception.at, at, text)
        return at is None

    def test_told_ones(self):
        told = {
            "a": A, "-": NOTHING, "(a)": A, "((-))": NOTHING, "ab": ("row", A, B), "a|b": ("either", A, B),
            "abc": ("row", ("row", A, B), C), "a(bc)": ("row", A, ("row", B, C)),
            "a|b|c": ("either", ("either", A, B), C), "a|(b|c)": ("either", A, ("either", B, C)),
            "ab|c": ("either", ("row", A, B), C), "a|bc": ("either", A, ("row", B, C)),
            "a*": ("many", A), "a?": ("maybe", A), "a*?": ("maybe", ("many", A)), "a?*": ("many", ("maybe", A)),
            "a**": ("many", ("many", A)), "ab*": ("row", A, ("many", B)), "(ab)*": ("many", ("row", A, B)),
            "a*b": ("row", ("many", A), B), "(a|b)c": ("row", ("either", A, B), C), "-*": ("many", NOTHING),
            "a|-": ("either", A, NOTHING), "-a": ("row", NOTHING, A), "z": ("letter", "z", "keep"),
        }
        for text, tree in told.items():
            self.assertEqual(read_tolls(text), tree, text)
        for deed, sign in SIGNS.items():
            self.assertEqual(read_tolls("a" + sign), ("letter", "a", deed))
            self.assertEqual(read_tolls("b" + sign + "*a"), ("row", ("many", ("letter", "b", deed)), A))

    def test_all_short_texts(self):
        count = {True: 0, False: 0}
        for length in range(6):
            for signs in itertools.product("ab!*|()-", repeat=length) if length < 5 else itertools.product(
                    "a!?|()", repeat=length):
                text = "".join(signs)
                count[self.check(text)] += 1
        self.assertGreater(min(count.values()), 500)

    def test_bent_texts(self):
        text = "(a!b|c.*)?(-|b$)a:|((b)*)?"
        self.assertEqual(read_tolls(text), slow_tree(text))
        bent = {text[:at] + sign + text[at + more:] for at in range(len(text) + 1) for more in (0, 1)
                for sign in ["", *"a!.$:-()*?|", " ", "A", "\n", "0", "~", "+", "&"]}
        count = {True: 0, False: 0}
        for each in sorted(bent):
            count[self.check(each)] += 1
        self.assertGreater(min(count.values()), 50)

    def test_told_faults(self):
        told = {"": 0, "(": 1, ")": 0, "()": 1, "*": 0, "a||b": 2, "|a": 0, "a|": 2, "a!!": 2, "a!.": 2, "-!": 1,
                "(a)!": 3, "a*!": 2, "(a": 2, "a)": 1, "(a|)": 3, "a b": 1, " a": 0, "a ": 1, "A": 0, "aB": 1, "a\n": 1,
                "ab|": 3, "((a)": 4, "(*a)": 1, "a(?)": 2, "a|*": 2, "1": 0, "!a": 0, "a(|b)": 2, "(a))": 3}
        for text, at in told.items():
            with self.assertRaises(BadText, msg=text) as caught:
                read_tolls(text)
            self.assertEqual(caught.exception.at, at, text)

    def test_long_and_deep_texts(self):
        self.assertEqual(read_tolls("(" * 30 + "a" + ")" * 30), A)
        self.assertEqual(read_tolls("(" * 99 + "a" + ")" * 99), A)
        with self.assertRaises(BadText) as caught:
            read_tolls("(" * 99 + "a" + ")" * 98)
        self.assertEqual(caught.exception.at, 198)
        tree = read_tolls("a" * 200)
        for turn in range(199):
            kind, tree, last = tree
            self.assertEqual((kind, last), ("row", A))
        tree = read_tolls("a" + "*?" * 99)
        for turn in range(99):
            self.assertEqual((tree[0], tree[1][0]), ("maybe", "many"))
            tree = tree[1][1]
        self.assertEqual(tree, A)

    def test_by_name(self):
        self.assertEqual(read_tolls(text="a"), A)


class TollsText(unittest.TestCase):
    def test_told_ones(self):
        told = {"abc": ("row", ("row", A, B), C), "a(bc)": ("row", A, ("row", B, C)), "a|b|c": ("either", ("either", A, B), C),
                "a|(b|c)": ("either", A, ("either", B, C)), "ab|bc": ("either", ("row", A, B), ("row", B, C)),
                "(a|b)(b|c)": ("row", ("either", A, B), ("either", B, C)), "a*?*": ("many", ("maybe", ("many", A))),
                "(ab)*": ("many", ("row", A, B)), "(a|b)?": ("maybe", ("either", A, B)), "-": NOTHING,
                "-*-": ("row", ("many", NOTHING), NOTHING), "(a|b)*c": ("row", ("many", ("either", A, B)), C)}
        for text, tree in told.items():
            self.assertEqual(tolls_text(tree), text)
        for deed, sign in SIGNS.items():
            self.assertEqual(tolls_text(("letter", "q", deed)), "q" + sign)

    def test_read_back_as_the_same_tree(self):
        for tree in all_trees((A, ("letter", "b", "coin"), NOTHING), 2)[::3] + some_trees(300, "abcz", 12):
            self.assertEqual(read_tolls(tolls_text(tree)), tree)

    def test_each_bracket_is_needed(self):
        brackets = 0
        for tree in all_trees((A, B), 2) + some_trees(200, "ab", 12):
            text = tolls_text(tree)
            for at, sign in enumerate(text):
                if sign == "(":
                    depth, end = 1, at
                    while depth:
                        end += 1
                        depth += {"(": 1, ")": -1}.get(text[end], 0)
                    without = text[:at] + text[at + 1:end] + text[end + 1:]
                    self.assertNotEqual(read_tolls(without), tree, (text, without))
                    brackets += 1
        self.assertGreater(brackets, 500)

    def test_written_and_read(self):
        for text in ("a!b.c$d:", "(a|b)*", "a|b|c", "a(bc)", "-?*"):
            self.assertEqual(tolls_text(read_tolls(text)), text)
        for text, shorter in (("((a))", "a"), ("(ab)c", "abc"), ("(a|b)|c", "a|b|c"), ("(a*)*", "a**"), ("(ab)|c", "ab|c")):
            self.assertEqual(tolls_text(read_tolls(text)), shorter)

    def test_long_texts(self):
        for text in ("a" * 200, "a" + "*" * 199, "a|" * 99 + "a", "a(b" * 30 + "c" + ")" * 30):
            self.assertEqual(tolls_text(read_tolls(text)), text)


NO_TREES = (
    (), ("",), ("letter",), ("letter", "a"), ("letter", "a", "keep", "keep"), ("letter", "", "keep"),
    ("letter", "ab", "keep"), ("letter", "A", "keep"), ("letter", "-", "keep"), ("letter", "a", ""), ("letter", "a", "dear"),
    ("letter", "a", "shut"), ("letter", "a", "!"), ("nothing", A), ("nothing", ""), ("row", A), ("row",), ("row", A, B, C),
    ("either", A), ("either", A, B, A), ("many",), ("many", A, B), ("maybe",), ("maybe", A, A), ("none", A), ("Many", A),
    ("keep",), ("letters", "a", "keep"), (A,), (A, B), ("a",), ("many", ("many",)), ("many", ()), ("row", A, ()),
    ("many", "a"), ("row", "a", "b"), ("letter", A, "keep"), ("letter", "a", A),
)


class BadTrees(unittest.TestCase):
    def assert_refused(self, tree):
        with self.assertRaises(BadTree, msg=tree):
            tolls_text(tree)
        for letters in ("a", "", "ba", "abcd", "z"):
            with self.assertRaises(BadTree, msg=tree):
                machine_of(tree, letters)
        for word in ("", "a", "aaaaaaa", "A"):
            with self.assertRaises(BadTree, msg=tree):
                readings(tree, word)

    def test_other_forms(self):
        for tree in NO_TREES:
            self.assert_refused(tree)

    def test_deep_within(self):
        for bad in NO_TREES:
            for tree in (("many", bad), ("maybe", bad), ("row", bad, A), ("row", A, bad), ("either", bad, A),
                         ("either", A, bad), ("row", ("many", ("either", ("maybe", bad), A)), B)):
                self.assert_refused(tree)
        deep = ()
        for turn in range(38):
            deep = ("many", deep)
        self.assert_refused(deep)

    def test_ahead_of_full_too(self):
        tree = ()
        for turn in range(12):
            tree = ("row", tree, A)
        self.assert_refused(tree)


class MachineOf(unittest.TestCase):
    def test_told_ones(self):
        told = {
            "-": (1, "ab", [], [0], [0]),
            "a!": (2, "ab", [(0, "a", "cent", 1)], [0], [1]),
            "a!*": (2, "ab", [(0, "a", "cent", 1), (1, "a", "cent", 1)], [0], [0, 1]),
            "a?b.": (3, "ab", [(0, "a", "keep", 1), (0, "b", "fill", 2), (1, "b", "fill", 2)], [0], [2]),
            "(a$|b)*": (3, "ab", [(at, "a", "coin", 1) for at in range(3)] + [(at, "b", "keep", 2) for at in range(3)],
                        [0], [0, 1, 2]),
            "a|a": (3, "ab", [(0, "a", "keep", 1), (0, "a", "keep", 2)], [0], [1, 2]),
            "ab?": (3, "ab", [(0, "a", "keep", 1), (1, "b", "keep", 2)], [0], [1, 2]),
            "(-a)*-": (2, "ab", [(0, "a", "keep", 1), (1, "a", "keep", 1)], [0], [0, 1]),
        }
        for text, (rooms, letters, arrows, firsts, lasts) in told.items():
            self.assertEqual(all_of(machine_of(read_tolls(text), "ab")),
                             (rooms, letters, sorted(arrows), firsts, lasts), text)

    def test_by_all_readings(self):
        trees = [tree for tree in some_trees(400, "ab", 5) if len(letters_of(tree)) <= 4]
        self.assertGreater(len(trees), 100)
        for tree in trees:
            self.assertEqual(all_of(machine_of(tree, "ab")), slow_machine(tree, "ab", 6), tolls_text(tree))

    def test_a_price_is_the_least_peak_of_the_readings(self):
        dear = 0
        for tree in some_trees(120, "ab", 7):
            machine = machine_of(tree, "ab")
            for word in words_of("ab", 4):
                told = min([slow_peak(row) for row in slow_readings(tree, word)], default=None)
                self.assertEqual(price(machine, word), told, (tolls_text(tree), word))
                dear += told is not None and told > 1
        self.assertGreater(dear, 20)

    def test_letters(self):
        for letters in ("a", "ab", "abc", "az", "axy"):
            machine = machine_of(read_tolls("a*"), letters)
            self.assertEqual(machine.letters(), letters)
        for letters in ("", "ba", "aa", "abcd", "A", "aB", "a b", " ", "b", "bc", "xyz", "-"):
            with self.assertRaises(BadLetters, msg=letters):
                machine_of(read_tolls("a"), letters)
        for letters in ("a", "b", "bc", "ac"):
            with self.assertRaises(BadLetters, msg=letters):
                machine_of(read_tolls("(a|-)*b"), letters)
        self.assertEqual(machine_of(NOTHING, "xyz").letters(), "xyz")
        for letters in ("", "zz"):
            with self.assertRaises(BadLetters):
                machine_of(NOTHING, letters)

    def test_letters_ahead_of_full(self):
        for letters in ("b", "", "ba"):
            with self.assertRaises(BadLetters):
                machine_of(read_tolls("a" * 8), letters)
        with self.assertRaises(BadLetters):
            machine_of(read_tolls("abcd"), "abc")

    def test_full(self):
        self.assertEqual(machine_of(read_tolls("a" * 7), "a").rooms(), 8)
        for text in ("a" * 8, "a|" * 7 + "a", "a" * 200, "(" + "a" * 8 + ")*"):
            with self.assertRaises(Full, msg=text):
                machine_of(read_tolls(text), "a")

    def test_full_by_arrows(self):
        for text, count in (("(a|a|a|a|a)*", 30), ("(a?a*(a|a)*a(a|a)*)*", 40)):
            tree = read_tolls(text)
            self.assertEqual(len(machine_of(tree, "a")), count)
            self.assertEqual(machine_of(tree, "a").arrows(), slow_machine(tree, "a", 4)[2])
        self.assertEqual(len(slow_machine(read_tolls("(a?a?(a|a)*(a|a)*a)*"), "a", 4)[2]), 41)
        for text in ("(a?a?(a|a)*(a|a)*a)*", "(a|a|a|a|a|a)*", "(a|a|a|a|a|a|a)*"):
            with self.assertRaises(Full, msg=text):
                machine_of(read_tolls(text), "a")

    def test_long_texts_of_few_places(self):
        machine = machine_of(read_tolls("a" + "*?" * 99), "a")
        self.assertEqual(all_of(machine), (2, "a", [(0, "a", "keep", 1), (1, "a", "keep", 1)], [0], [0, 1]))
        self.assertEqual(machine_of(read_tolls("-" * 200), "a").rooms(), 1)

    def test_by_names(self):
        self.assertEqual(machine_of(letters="ab", tree=A), machine_of(A, "ab"))


class Readings(unittest.TestCase):
    def test_told_ones(self):
        self.assertEqual(readings(read_tolls("a!|a|a$b"), "a"), [("cent",), ("keep",)])
        self.assertEqual(readings(read_tolls("(a!|a:)*"), "aa"),
                         [("brim", "brim"), ("brim", "cent"), ("cent", "brim"), ("cent", "cent")])
        self.assertEqual(readings(read_tolls("a*a*a!?"), "aa"), [("keep", "cent"), ("keep", "keep")])
        self.assertEqual(readings(read_tolls("a|a"), "a"), [("keep",)])
        self.assertEqual(readings(NOTHING, ""), [()])
        self.assertEqual(readings(NOTHING, "a"), [])
        self.assertEqual(readings(read_tolls("a*"), ""), [()])
        self.assertEqual(readings(A, ""), [])
        self.assertEqual(readings(A, "z"), [])
        self.assertEqual(readings(read_tolls("-*"), ""), [()])

    def test_by_definition(self):
        several = 0
        for tree in some_trees(90, "ab", 9):
            for word in words_of("ab", 4):
                told = sorted(slow_readings(tree, word))
                self.assertEqual(readings(tree, word), told, (tolls_text(tree), word))
                several += len(told) > 1
        self.assertGreater(several, 30)

    def test_six_letters(self):
        tree = read_tolls("(a|a!|b.b?|a$)*")
        for word in ("aaaaaa", "ababab", "abbabb", "bbbbbb"):
            self.assertEqual(readings(tree, word), sorted(slow_readings(tree, word)))
        every = readings(read_tolls("(a|a!|a.|a$|a:)*?*"), "aaaaaa")
        self.assertEqual(every, sorted(itertools.product(("keep", "cent", "fill", "coin", "brim"), repeat=6)))

    def test_kinds_and_asked_again(self):
        tree = read_tolls("(a|a!)*")
        found = readings(tree, "aa")
        self.assertIsInstance(found, list)
        self.assertTrue(all(isinstance(row, tuple) for row in found))
        copy = list(found)
        found.clear()
        self.assertEqual(readings(tree, "aa"), copy)

    def test_refused(self):
        for word in ("aaaaaaa", "A", "a b", " ", "-", "a\n", "ab1", "(", "a" * 60, "Z" * 7):
            for tree in (A, NOTHING, read_tolls("a*")):
                with self.assertRaises(BadWord, msg=word):
                    readings(tree, word)
        self.assertEqual(readings(A, "zzzzzz"), [])

    def test_more_places_than_a_machine_may_have(self):
        self.assertEqual(readings(read_tolls("|".join("a" * 20)), "a"), [("keep",)])
        self.assertEqual(readings(read_tolls("a?" * 20), "aaa"), [("keep",) * 3])

    def test_by_names(self):
        self.assertEqual(readings(word="a", tree=A), [("keep",)])
        self.assertEqual(tolls_text(tree=A), "a")


if __name__ == "__main__":
    unittest.main()
