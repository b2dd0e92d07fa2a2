"""Point [9], and [2] where it touches onepurse.boards."""

import itertools
import random
import unittest

from onepurse.boards import board_of, ends_well, first_board, least_ones, next_board
from onepurse.errors import BadSize, BadWord
from onepurse.machines import Machine
from tests.samples import HUGE, all_of, loop, many_machines, slow_board, slow_least, small, spent, words_of

NO_LETTERS = ("", "c", "ab", "aa", "A", " ", "\n", "-")
BAD_WORDS = ("c", "abc", "A", " ", "a b", "\n", "a" * 61, "ab" * 10000)


def triples_by_chance(seed, count, highest):
    chance = random.Random(seed)
    return [(chance.randrange(3), chance.randrange(highest), chance.randrange(highest)) for times in range(count)]


def is_board(thing):
    return isinstance(thing, tuple) and all(isinstance(triple, tuple) and len(triple) == 3 for triple in thing)


def slow_next(machine, board, letter, size):
    """What each triple's arrows by a letter lead to, as the document says it."""
    made = []
    for room, lesser, greater in board:
        for start, by, deed, end in machine.arrows():
            pair = spent((lesser, greater), deed)
            if (start, by) == (room, letter) and max(pair) <= size:
                made.append((end, *pair))
    return slow_least(made)


class LeastOnes(unittest.TestCase):
    def test_none_and_one(self):
        self.assertEqual(least_ones([]), ())
        self.assertEqual(least_ones(()), ())
        self.assertEqual(least_ones([(3, 1, 2)]), ((3, 1, 2),))

    def test_another_has_spent_no_more(self):
        self.assertEqual(least_ones([(0, 1, 1), (0, 2, 2)]), ((0, 1, 1),))
        self.assertEqual(least_ones([(0, 2, 2), (0, 1, 1)]), ((0, 1, 1),))
        self.assertEqual(least_ones([(0, 1, 1), (0, 1, 2)]), ((0, 1, 1),))
        self.assertEqual(least_ones([(0, 2, 1), (0, 1, 1)]), ((0, 1, 1),))
        self.assertEqual(least_ones([(0, 5, 0), (0, 5, 1), (0, 6, 0), (0, 0, 9)]), ((0, 0, 9), (0, 5, 0)))

    def test_equal_ones_stand_once(self):
        self.assertEqual(least_ones([(1, 2, 3)] * 5), ((1, 2, 3),))
        self.assertEqual(least_ones([(1, 2, 3), (1, 3, 2), (1, 2, 3)]), ((1, 2, 3), (1, 3, 2)))

    def test_side_by_side(self):
        triples = [(0, 4, 0), (0, 0, 4), (0, 2, 2), (0, 1, 3), (0, 3, 1)]
        for some in itertools.permutations(triples):
            self.assertEqual(least_ones(list(some)), ((0, 0, 4), (0, 1, 3), (0, 2, 2), (0, 3, 1), (0, 4, 0)))

    def test_other_rooms_do_not_count(self):
        self.assertEqual(least_ones([(1, 0, 0), (0, 5, 5), (2, 3, 3)]), ((0, 5, 5), (1, 0, 0), (2, 3, 3)))
        self.assertEqual(least_ones([(1, 4, 4), (0, 5, 5), (1, 4, 3)]), ((0, 5, 5), (1, 4, 3)))

    def test_like_a_slow_way(self):
        for seed in range(300):
            triples = triples_by_chance(seed, seed // 6, 2 + seed // 12)
            self.assertEqual(least_ones(triples), slow_least(triples), triples)

    def test_great_numbers(self):
        triples = [(7, HUGE, 0), (7, HUGE - 1, HUGE), (7, HUGE, 1), (7, 0, HUGE), (0, HUGE, HUGE)]
        self.assertEqual(least_ones(triples), ((0, HUGE, HUGE), (7, 0, HUGE), (7, HUGE, 0)))

    def test_many(self):
        self.assertEqual(least_ones([(0, k, k) for k in range(399, -1, -1)]), ((0, 0, 0),))
        falling = [(0, k, 400 - k) for k in range(400)]
        self.assertEqual(least_ones(falling[::-1]), tuple(falling))

    def test_lists_and_tuples_are_alike(self):
        triples = [(0, 1, 2), (0, 2, 1), (0, 2, 2), (1, 0, 0)]
        told = ((0, 1, 2), (0, 2, 1), (1, 0, 0))
        mixed = [list(triple) for triple in triples[:2]] + triples[2:]
        for some in (triples, tuple(triples), [list(triple) for triple in triples], mixed):
            found = least_ones(some)
            self.assertEqual(found, told)
            self.assertTrue(is_board(found))
        self.assertEqual(least_ones(triples=triples), told)

    def test_what_is_handed_in_stays(self):
        triples = [[1, 2, 2], [0, 1, 1], [0, 1, 1], [1, 2, 1]]
        found = least_ones(triples)
        self.assertEqual(triples, [[1, 2, 2], [0, 1, 1], [0, 1, 1], [1, 2, 1]])
        triples[1][1] = 9
        triples.clear()
        self.assertEqual(found, ((0, 1, 1), (1, 2, 1)))


class FirstBoard(unittest.TestCase):
    def test_none_one_and_several(self):
        self.assertEqual(first_board(Machine(3, "a", firsts=[])), ())
        self.assertEqual(first_board(Machine(3, "a", firsts=[2], lasts=[])), ((2, 0, 0),))
        self.assertEqual(first_board(Machine(8, "a", firsts=[7, 0, 3])), ((0, 0, 0), (3, 0, 0), (7, 0, 0)))
        self.assertTrue(is_board(first_board(machine=small())))


class NextBoard(unittest.TestCase):
    def test_each_deed(self):
        told = {"keep": (0, 3, 4), "cent": (0, 4, 4), "fill": (0, 0, 4), "coin": (0, 0, 5), "brim": (0, 0, 0)}
        for deed, triple in told.items():
            self.assertEqual(next_board(loop(deed), ((0, 3, 4),), "a", size=9), (triple,))

    def test_size_nought(self):
        for deed in ("keep", "fill", "brim"):
            self.assertEqual(next_board(loop(deed), ((0, 0, 0),), "a", size=0), ((0, 0, 0),))
        for deed in ("cent", "coin"):
            self.assertEqual(next_board(loop(deed), ((0, 0, 0),), "a", size=0), ())

    def test_neither_purse_beyond_the_size(self):
        self.assertEqual(next_board(loop("cent"), ((0, 3, 0),), "a", size=4), ((0, 4, 0),))
        self.assertEqual(next_board(loop("cent"), ((0, 4, 0),), "a", size=4), ())
        self.assertEqual(next_board(loop("coin"), ((0, 0, 3),), "a", size=4), ((0, 0, 4),))
        self.assertEqual(next_board(loop("coin"), ((0, 0, 4),), "a", size=4), ())

    def test_what_is_spent_behind_the_letter_counts_alone(self):
        self.assertEqual(next_board(loop("fill"), ((0, 9, 2),), "a", size=2), ((0, 0, 2),))
        self.assertEqual(next_board(loop("coin"), ((0, 9, 1),), "a", size=2), ((0, 0, 2),))
        self.assertEqual(next_board(loop("brim"), ((0, 9, 9),), "a", size=0), ((0, 0, 0),))
        self.assertEqual(next_board(loop("keep"), ((0, 9, 0),), "a", size=2), ())
        self.assertEqual(next_board(loop("fill"), ((0, 0, 9),), "a", size=2), ())

    def test_no_arrows_and_the_empty_board(self):
        self.assertEqual(next_board(loop("keep", "ab"), ((0, 0, 0),), "b", size=5), ())
        self.assertEqual(next_board(small(), (), "a", size=5), ())

    def test_like_a_slow_way(self):
        for seed, machine in enumerate(many_machines(90)):
            chance = random.Random(seed)
            board = [(chance.randrange(machine.rooms()), chance.randrange(5), chance.randrange(5)) for k in range(6)]
            for letter, size in itertools.product("ab", (0, 1, 3, 6)):
                told = slow_next(machine, board, letter, size)
                for some in (board, tuple(board[::-1]), [list(triple) for triple in board], board + board):
                    found = next_board(machine, some, letter, size=size)
                    self.assertEqual(found, told)
                    self.assertTrue(is_board(found))

    def test_great_numbers(self):
        board = ((0, HUGE - 1, 0), (0, 0, HUGE))
        self.assertEqual(next_board(loop("cent"), board, "a", size=HUGE), ((0, 1, HUGE), (0, HUGE, 0)))
        self.assertEqual(next_board(loop("cent"), board, "a", size=HUGE - 1), ())

    def test_refused(self):
        for size in (-1, -HUGE):
            for letter in ("a",) + NO_LETTERS:
                with self.assertRaises(BadSize, msg=(size, letter)):
                    next_board(small(), ((0, 0, 0),), letter, size=size)
        for letter in NO_LETTERS:
            for board in ((), ((0, 0, 0),)):
                with self.assertRaises(BadWord, msg=letter):
                    next_board(small(), board, letter, size=0)

    def test_size_by_its_name_and_all_else_too(self):
        self.assertEqual(next_board(size=1, letter="a", board=[(0, 0, 0)], machine=loop("cent")), ((0, 1, 0),))
        with self.assertRaises(TypeError):
            next_board(loop("cent"), ((0, 0, 0),), "a", 1)
        with self.assertRaises(TypeError):
            next_board(loop("cent"), ((0, 0, 0),), "a")

    def test_what_is_handed_in_stays(self):
        machine, board = small(), [[2, 5, 5], [0, 1, 1], [0, 3, 3]]
        before = all_of(machine)
        found = next_board(machine, board, "a", size=9)
        self.assertEqual(board, [[2, 5, 5], [0, 1, 1], [0, 3, 3]])
        board[1][1] = 4
        self.assertEqual(found, ((1, 1, 1), (2, 0, 0)))
        self.assertEqual(all_of(machine), before)


class BoardOf(unittest.TestCase):
    def test_word_of_no_letters(self):
        for machine in many_machines(30):
            self.assertEqual(board_of(machine, "", size=0), first_board(machine))
            self.assertEqual(board_of(machine, "", size=HUGE), first_board(machine))

    def test_as_all_paths_tell(self):
        for machine in many_machines(60):
            for word, size in itertools.product(words_of("ab", 4), (0, 1, 2, 5)):
                found = board_of(machine, word, size=size)
                self.assertEqual(found, slow_board(machine, word, size), (all_of(machine), word, size))
                self.assertTrue(is_board(found))

    def test_long_words(self):
        self.assertEqual(board_of(loop("cent"), "a" * 60, size=60), ((0, 60, 0),))
        self.assertEqual(board_of(loop("cent"), "a" * 60, size=59), ())
        self.assertEqual(board_of(loop("coin"), "a" * 60, size=HUGE), ((0, 0, 60),))

    def test_ends_well_just_where_let_by(self):
        for machine in many_machines(40):
            for word in words_of("ab", 4):
                self.assertIs(ends_well(machine, board_of(machine, word, size=9)), machine.lets(word))

    def test_refused(self):
        for word in BAD_WORDS:
            for size in (0, 5, -1, -HUGE):
                with self.assertRaises(BadWord, msg=(word[:9], size)):
                    board_of(small(), word, size=size)
        for word in ("", "a", "b" * 60):
            for size in (-1, -HUGE):
                with self.assertRaises(BadSize, msg=(word, size)):
                    board_of(small(), word, size=size)

    def test_refused_where_nothing_is_come_to(self):
        shut = Machine(1, "a", firsts=[])
        self.assertRaises(BadWord, board_of, shut, "ab", size=0)
        self.assertRaises(BadSize, board_of, shut, "aa", size=-1)

    def test_by_names(self):
        self.assertEqual(board_of(size=2, word="aa", machine=loop("cent")), ((0, 2, 0),))
        with self.assertRaises(TypeError):
            board_of(loop("cent"), "aa", 2)


class EndsWell(unittest.TestCase):
    def test_with_and_without_a_last_room(self):
        machine = Machine(4, "a", lasts=[1, 3])
        for board, told in (
            ((), False), (((0, 0, 0),), False), (((1, 0, 0),), True), (((3, 9, 9),), True),
            (((0, 0, 0), (2, 1, 1)), False), (((0, 0, 0), (3, HUGE, 0)), True), (((3, 0, 0), (0, 0, 0)), True),
            (((2, 1, 3), (2, 3, 1), (0, 1, 3)), False),
        ):
            self.assertIs(ends_well(machine, board), told, board)
            self.assertIs(ends_well(machine, [list(triple) for triple in board]), told, board)

    def test_no_last_rooms(self):
        machine = Machine(2, "a", lasts=[])
        self.assertIs(ends_well(machine, ((0, 0, 0), (1, 0, 0))), False)
        self.assertIs(ends_well(machine, ()), False)

    def test_by_names(self):
        self.assertIs(ends_well(board=[(0, 1, 1)], machine=loop("keep")), True)


if __name__ == "__main__":
    unittest.main()
