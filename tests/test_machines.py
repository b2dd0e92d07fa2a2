"""Points [5] and [6], and [2] where it touches onepurse.machines."""

import itertools
import unittest

from onepurse.errors import BadArrow, BadLetters, BadRoom, BadSize, BadWord, Full, NoArrow, Taken
from onepurse.machines import MOST_ARROWS, MOST_LETTERS, MOST_ROOMS, MOST_WORD, Machine

HUGE = 10 ** 30 - 1
BAD_LETTERS = ("", "ba", "aa", "abb", "acb", "abcd", "A", "aB", "1", "a ", " ", "a\n", "(", "{", "`", "-", "a" * 20000)
NO_LETTERS = ("", "ab", "c", "A", " ", "a ", "\n", "-")
BAD_ARROWS = (
    (-1, "a", "keep", 0), (3, "a", "keep", 0), (HUGE, "a", "keep", 0), (-HUGE, "a", "keep", 0),
    (0, "a", "keep", -1), (0, "a", "keep", 3), (0, "a", "keep", HUGE),
    (0, "c", "keep", 0), (0, "", "keep", 0), (0, "ab", "keep", 0), (0, "A", "keep", 0), (0, " ", "keep", 0),
    (0, "a", "", 0), (0, "a", "dear", 0), (0, "a", "shut", 0), (0, "a", "Keep", 0), (0, "a", "kee", 0),
)
BAD_ROOMS = (-1, 3, -HUGE, HUGE)


def small():
    """A machine of three rooms with arrows that are not handed in rising."""
    arrows = [(2, "a", "fill", 0), (0, "b", "keep", 2), (0, "a", "keep", 1), (0, "a", "cent", 2), (0, "a", "cent", 1)]
    return Machine(3, "ab", arrows, firsts=[1, 0], lasts=(2,))


def many_arrows(count):
    """So many unlike arrows for eight rooms and the letter a."""
    every = itertools.product(range(8), "a", ("keep", "cent", "fill", "coin", "brim"), range(8))
    return list(itertools.islice(every, count))


def all_of(machine):
    return (machine.rooms(), machine.letters(), machine.arrows(), machine.firsts(), machine.lasts())


class Making(unittest.TestCase):
    def test_bounds(self):
        self.assertEqual((MOST_ROOMS, MOST_LETTERS, MOST_ARROWS, MOST_WORD), (8, 3, 40, 60))

    def test_what_it_tells(self):
        machine = small()
        self.assertEqual(machine.rooms(), 3)
        self.assertEqual(machine.letters(), "ab")
        told = [(0, "a", "cent", 1), (0, "a", "cent", 2), (0, "a", "keep", 1), (0, "b", "keep", 2), (2, "a", "fill", 0)]
        self.assertEqual(machine.arrows(), told)
        self.assertEqual(machine.firsts(), [0, 1])
        self.assertEqual(machine.lasts(), [2])

    def test_left_out(self):
        self.assertEqual(all_of(Machine(1, "a")), (1, "a", [], [0], [0]))

    def test_no_first_and_no_last_rooms(self):
        self.assertEqual(all_of(Machine(2, "xz", (), firsts=(), lasts=[])), (2, "xz", [], [], []))

    def test_all_rooms_first_and_last(self):
        machine = Machine(8, "abc", firsts=tuple(range(8)), lasts=list(range(7, -1, -1)))
        self.assertEqual(machine.firsts(), list(range(8)))
        self.assertEqual(machine.lasts(), list(range(8)))

    def test_all_kinds_of_letters(self):
        for letters in ("a", "z", "az", "abc", "xyz", "amz"):
            self.assertEqual(Machine(1, letters).letters(), letters)

    def test_by_names(self):
        machine = Machine(lasts=[1], firsts=[0], arrows=[(0, "a", "coin", 1)], letters="a", rooms=2)
        self.assertEqual(all_of(machine), (2, "a", [(0, "a", "coin", 1)], [0], [1]))

    def test_firsts_and_lasts_only_by_names(self):
        with self.assertRaises(TypeError):
            Machine(1, "a", (), (0,))

    def test_lists_and_tuples_are_alike(self):
        arrows = [(0, "a", "coin", 1), (1, "a", "brim", 0)]
        one = Machine(2, "a", arrows, firsts=[0, 1], lasts=[1])
        other = Machine(2, "a", tuple(arrows), firsts=(0, 1), lasts=(1,))
        self.assertEqual(one, other)
        self.assertEqual(all_of(one), all_of(other))


class Refused(unittest.TestCase):
    def test_rooms(self):
        for rooms in range(1, 9):
            self.assertEqual(Machine(rooms, "a").rooms(), rooms)
        for rooms in (-HUGE, -1, 0, 9, HUGE):
            with self.assertRaises(BadSize, msg=rooms):
                Machine(rooms, "a")

    def test_letters(self):
        for letters in BAD_LETTERS:
            with self.assertRaises(BadLetters, msg=letters[:9]):
                Machine(1, letters)

    def test_arrows(self):
        good = (0, "a", "keep", 0)
        for arrow in BAD_ARROWS:
            for arrows in ([arrow], (good, arrow), [arrow, good]):
                with self.assertRaises(BadArrow, msg=arrow):
                    Machine(3, "ab", arrows)

    def test_an_arrow_twice(self):
        one, other = (0, "a", "keep", 0), (0, "a", "cent", 0)
        self.assertEqual(len(Machine(1, "a", [one, other])), 2)
        for arrows in ([one, one], [one, other, one], (other, one, one)):
            with self.assertRaises(BadArrow):
                Machine(1, "a", arrows)

    def test_forty_arrows_and_more(self):
        self.assertEqual(len(Machine(8, "a", many_arrows(40))), 40)
        for count in (41, 320):
            with self.assertRaises(Full):
                Machine(8, "a", many_arrows(count))

    def test_first_and_last_rooms(self):
        for rooms in ([3], (-1,), [0, 1, 2, 3], [HUGE], [0, 0], (2, 1, 2)):
            with self.assertRaises(BadRoom, msg=rooms):
                Machine(3, "a", firsts=rooms)
            with self.assertRaises(BadRoom, msg=rooms):
                Machine(3, "a", lasts=rooms)

    def test_the_one_named_first_comes(self):
        bad_arrows = many_arrows(41) + [(9, "a", "keep", 0)]
        twice = many_arrows(41) + many_arrows(1)
        with self.assertRaises(BadSize):
            Machine(9, "ba", bad_arrows, firsts=[9], lasts=[9])
        with self.assertRaises(BadLetters):
            Machine(8, "ba", bad_arrows, firsts=[9], lasts=[9])
        with self.assertRaises(BadArrow):
            Machine(8, "a", bad_arrows, firsts=[9], lasts=[9])
        with self.assertRaises(BadArrow):
            Machine(8, "a", twice, firsts=[9], lasts=[9])
        with self.assertRaises(Full):
            Machine(8, "a", many_arrows(41), firsts=[9], lasts=[9])
        with self.assertRaises(BadRoom):
            Machine(8, "a", many_arrows(40), firsts=[9], lasts=[0, 0])

    def test_what_is_refused_changes_nothing(self):
        arrows, firsts, lasts = [(0, "a", "keep", 0), (0, "a", "dear", 0)], [1, 0, 1], [0]
        with self.assertRaises(BadArrow):
            Machine(2, "a", arrows, firsts=firsts, lasts=lasts)
        self.assertEqual(arrows, [(0, "a", "keep", 0), (0, "a", "dear", 0)])
        self.assertEqual((firsts, lasts), ([1, 0, 1], [0]))


class Apart(unittest.TestCase):
    """What is handed in and what is told stay apart from the machine."""

    def test_what_is_handed_in_stays(self):
        arrows, firsts, lasts = [(1, "a", "keep", 0), (0, "a", "keep", 1)], [1, 0], [1, 0]
        Machine(2, "a", arrows, firsts=firsts, lasts=lasts)
        self.assertEqual(arrows, [(1, "a", "keep", 0), (0, "a", "keep", 1)])
        self.assertEqual((firsts, lasts), ([1, 0], [1, 0]))

    def test_lists_that_are_emptied_later(self):
        arrows, firsts, lasts = [(0, "a", "keep", 1)], [0], [1]
        machine = Machine(2, "a", arrows, firsts=firsts, lasts=lasts)
        arrows.clear()
        firsts.append(1)
        lasts.pop()
        self.assertEqual(all_of(machine), (2, "a", [(0, "a", "keep", 1)], [0], [1]))
        self.assertEqual(machine.steps(0, "a"), [("keep", 1)])
        self.assertIs(machine.lets("a"), True)
        self.assertIs(machine.lets(""), False)
        self.assertEqual(len(machine), 1)

    def test_told_lists_that_are_changed(self):
        machine = small()
        before = all_of(machine)
        for told in (machine.arrows(), machine.firsts(), machine.lasts(), machine.steps(0, "a")):
            self.assertIsInstance(told, list)
            told.reverse()
            told.append(7)
            told[0] = None
        self.assertEqual(all_of(machine), before)
        self.assertEqual(machine.steps(0, "a"), [("cent", 1), ("cent", 2), ("keep", 1)])
        empty = machine.steps(1, "b")
        empty.append(7)
        self.assertEqual(machine.steps(1, "b"), [])

    def test_left_out_lists_are_not_shared(self):
        Machine(1, "a").firsts().append(5)
        self.assertEqual(Machine(1, "a").firsts(), [0])


class Sameness(unittest.TestCase):
    def test_equal(self):
        one = Machine(2, "ab", [(0, "a", "keep", 1), (1, "b", "coin", 0)], firsts=[0, 1], lasts=[1, 0])
        other = Machine(2, "ab", ((1, "b", "coin", 0), (0, "a", "keep", 1)), firsts=(1, 0), lasts=(0, 1))
        self.assertTrue(one == other)
        self.assertFalse(one != other)
        self.assertTrue(one == one)

    def test_unequal_by_one_thing(self):
        arrows = [(0, "a", "keep", 1)]
        one = Machine(2, "a", arrows, firsts=[0], lasts=[1])
        others = (
            Machine(3, "a", arrows, firsts=[0], lasts=[1]), Machine(2, "ab", arrows, firsts=[0], lasts=[1]),
            Machine(2, "a", [], firsts=[0], lasts=[1]), Machine(2, "a", [(0, "a", "cent", 1)], firsts=[0], lasts=[1]),
            Machine(2, "a", arrows, firsts=[0, 1], lasts=[1]), Machine(2, "a", arrows, firsts=[], lasts=[1]),
            Machine(2, "a", arrows, firsts=[0], lasts=[0]), Machine(2, "a", arrows, firsts=[0], lasts=[]),
        )
        for other in others:
            self.assertFalse(one == other, other)
            self.assertTrue(one != other, other)

    def test_unequal_to_anything_else(self):
        machine = small()
        for thing in (repr(machine), "", all_of(machine), (), None, 5, 3, machine.arrows(), [], {}):
            self.assertFalse(machine == thing)
            self.assertFalse(thing == machine)
            self.assertTrue(machine != thing)
            self.assertTrue(thing != machine)

    def test_length_and_truth(self):
        self.assertEqual(len(small()), 5)
        self.assertEqual(len(Machine(8, "abc")), 0)
        self.assertTrue(small())
        self.assertFalse(Machine(8, "abc"))

    def test_repr(self):
        self.assertEqual(repr(small()), "Machine(3 rooms, ab, 5 arrows)")
        self.assertEqual(repr(Machine(1, "z")), "Machine(1 rooms, z, 0 arrows)")
        self.assertEqual(repr(Machine(1, "z", [(0, "z", "coin", 0)])), "Machine(1 rooms, z, 1 arrows)")
        self.assertEqual(repr(Machine(8, "abc", many_arrows(40))), "Machine(8 rooms, abc, 40 arrows)")


class Steps(unittest.TestCase):
    def test_rising_pairs(self):
        machine = small()
        self.assertEqual(machine.steps(0, "a"), [("cent", 1), ("cent", 2), ("keep", 1)])
        self.assertEqual(machine.steps(0, "b"), [("keep", 2)])
        self.assertEqual(machine.steps(1, "a"), [])
        self.assertEqual(machine.steps(2, "a"), [("fill", 0)])
        self.assertEqual(machine.steps(letter="b", room=2), [])

    def test_they_are_the_arrows(self):
        machine = Machine(8, "a", many_arrows(40))
        found = [(room, "a", deed, to) for room in range(8) for deed, to in machine.steps(room, "a")]
        self.assertEqual(found, machine.arrows())

    def test_refused(self):
        machine = small()
        for room in BAD_ROOMS:
            with self.assertRaises(BadRoom, msg=room):
                machine.steps(room, "a")
        for letter in NO_LETTERS:
            with self.assertRaises(BadLetters, msg=letter):
                machine.steps(0, letter)
        with self.assertRaises(BadRoom):
            machine.steps(3, "c")


class OneArrow(unittest.TestCase):
    def test_with_arrow(self):
        machine = small()
        before = all_of(machine)
        made = machine.with_arrow((1, "b", "brim", 1))
        self.assertIsInstance(made, Machine)
        self.assertEqual(made.arrows(), sorted(machine.arrows() + [(1, "b", "brim", 1)]))
        self.assertEqual(made.steps(1, "b"), [("brim", 1)])
        self.assertEqual((made.rooms(), made.letters(), made.firsts(), made.lasts()), (3, "ab", [0, 1], [2]))
        self.assertEqual(all_of(machine), before)
        self.assertEqual(machine.steps(1, "b"), [])
        self.assertEqual(made, machine.with_arrow(arrow=(1, "b", "brim", 1)))

    def test_with_arrow_refused(self):
        machine = small()
        before = all_of(machine)
        for arrow in BAD_ARROWS:
            with self.assertRaises(BadArrow, msg=arrow):
                machine.with_arrow(arrow)
        for arrow in machine.arrows():
            with self.assertRaises(Taken):
                machine.with_arrow(arrow)
        self.assertEqual(all_of(machine), before)

    def test_with_arrow_where_forty_are(self):
        arrows = many_arrows(41)
        almost = Machine(8, "a", arrows[:39])
        full = almost.with_arrow(arrows[39])
        self.assertEqual(len(full), 40)
        with self.assertRaises(Full):
            full.with_arrow(arrows[40])
        with self.assertRaises(Taken):
            full.with_arrow(arrows[3])
        with self.assertRaises(BadArrow):
            full.with_arrow((8, "a", "keep", 0))
        self.assertEqual(full.arrows(), sorted(arrows[:40]))

    def test_without_arrow(self):
        machine = small()
        before = all_of(machine)
        for arrow in machine.arrows():
            made = machine.without_arrow(arrow)
            self.assertEqual(made.arrows(), [other for other in machine.arrows() if other != arrow])
            self.assertEqual((made.rooms(), made.letters(), made.firsts(), made.lasts()), (3, "ab", [0, 1], [2]))
            self.assertEqual(made.with_arrow(arrow), machine)
        self.assertEqual(all_of(machine), before)
        self.assertEqual(len(machine.without_arrow(arrow=(0, "b", "keep", 2))), 4)

    def test_without_arrow_refused(self):
        machine = small()
        before = all_of(machine)
        for arrow in BAD_ARROWS:
            with self.assertRaises(BadArrow, msg=arrow):
                machine.without_arrow(arrow)
        for arrow in ((1, "b", "brim", 1), (0, "a", "cent", 0), (0, "b", "cent", 2)):
            with self.assertRaises(NoArrow):
                machine.without_arrow(arrow)
        with self.assertRaises(NoArrow):
            Machine(1, "a").without_arrow((0, "a", "keep", 0))
        self.assertEqual(all_of(machine), before)


class TurnedRooms(unittest.TestCase):
    def test_turned_first(self):
        machine = small()
        before = all_of(machine)
        self.assertEqual(machine.turned_first(2).firsts(), [0, 1, 2])
        self.assertEqual(machine.turned_first(0).firsts(), [1])
        self.assertEqual(machine.turned_first(0).turned_first(1).firsts(), [])
        self.assertEqual(machine.turned_first(room=1).turned_first(1), machine)
        made = machine.turned_first(2)
        self.assertEqual((made.rooms(), made.letters(), made.arrows(), made.lasts()), before[:3] + before[4:])
        self.assertEqual(all_of(machine), before)

    def test_turned_last(self):
        machine = small()
        before = all_of(machine)
        self.assertEqual(machine.turned_last(0).lasts(), [0, 2])
        self.assertEqual(machine.turned_last(2).lasts(), [])
        self.assertEqual(machine.turned_last(room=1).turned_last(1), machine)
        self.assertEqual(all_of(machine.turned_last(0))[:4], before[:4])
        self.assertEqual(all_of(machine), before)

    def test_refused(self):
        machine = small()
        before = all_of(machine)
        for room in BAD_ROOMS:
            with self.assertRaises(BadRoom, msg=room):
                machine.turned_first(room)
            with self.assertRaises(BadRoom, msg=room):
                machine.turned_last(room)
        self.assertEqual(all_of(machine), before)


def slow_lets(machine, word):
    """Whether one of all rows of arrows is a way of a word."""
    if word == "":
        return any(room in machine.lasts() for room in machine.firsts())
    for way in itertools.product(machine.arrows(), repeat=len(word)):
        by_letters = all(arrow[1] == letter for arrow, letter in zip(way, word))
        joined = all(one[3] == other[0] for one, other in zip(way, way[1:]))
        if by_letters and joined and way[0][0] in machine.firsts() and way[-1][3] in machine.lasts():
            return True
    return False


class Words(unittest.TestCase):
    def test_lets_as_all_ways_tell(self):
        ring = Machine(3, "ab", [(0, "a", "cent", 1), (1, "b", "coin", 2), (2, "a", "keep", 0)], lasts=[1])
        fork = Machine(3, "ab", [(0, "a", "cent", 1), (0, "a", "cent", 2), (1, "b", "keep", 0)], firsts=[0, 2], lasts=[2])
        stuck = Machine(2, "ab", [(0, "a", "keep", 1), (1, "b", "keep", 1)], firsts=[], lasts=[1])
        endless = Machine(2, "ab", [(0, "a", "keep", 1), (1, "b", "keep", 1)], firsts=[0], lasts=[])
        for machine in (small(), ring, fork, stuck, endless):
            for length in range(5):
                for signs in itertools.product("ab", repeat=length):
                    word = "".join(signs)
                    self.assertIs(machine.lets(word), slow_lets(machine, word), (machine, word))

    def test_word_of_no_letters(self):
        self.assertIs(Machine(1, "a").lets(""), True)
        self.assertIs(Machine(2, "a", firsts=[0], lasts=[1]).lets(""), False)
        self.assertIs(Machine(2, "a", firsts=[0, 1], lasts=[1]).lets(""), True)
        self.assertIs(Machine(2, "a", firsts=[], lasts=[1]).lets(""), False)
        self.assertIs(Machine(2, "a", firsts=[0], lasts=[]).lets(""), False)
        self.assertIsNone(Machine(1, "a").need_word(""))

    def test_lengths(self):
        loop = Machine(1, "ab", [(0, "a", "coin", 0)])
        self.assertIs(loop.lets("a" * 60), True)
        self.assertIs(loop.lets("a" * 59 + "b"), False)
        self.assertIsNone(loop.need_word("ab" * 30))
        for word in ("a" * 61, "b" * 61, "ab" * 10000):
            with self.assertRaises(BadWord):
                loop.lets(word)
            with self.assertRaises(BadWord):
                loop.need_word(word)

    def test_other_letters(self):
        machine = Machine(1, "ac", [(0, "a", "keep", 0), (0, "c", "keep", 0)])
        for word in ("b", "ab", "ba", "A", " ", "a c", "a\n", "-", "c" * 59 + "d", "a" * 60 + "b"):
            with self.assertRaises(BadWord, msg=word):
                machine.lets(word)
            with self.assertRaises(BadWord, msg=word):
                machine.need_word(word)

    def test_other_letters_where_nothing_is_reached(self):
        shut = Machine(1, "a", firsts=[])
        with self.assertRaises(BadWord):
            shut.lets("ab")
        self.assertIs(shut.lets("a"), False)

    def test_by_name(self):
        self.assertIs(small().lets(word="b"), True)
        self.assertIsNone(small().need_word(word="ab"))


if __name__ == "__main__":
    unittest.main()
