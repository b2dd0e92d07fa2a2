"""Points [22], [23] and [24], and [2] where it touches onepurse.shop."""

import itertools
import random
import unittest

from onepurse.boards import board_of
from onepurse.errors import (BadArrow, BadDeed, BadLetters, BadName, BadRoom, BadSize, BadText, BadWord, Full, InUse,
                             NoArrow, NoName, NothingLeft, NoTraveller, Taken, TooWide, Unlike)
from onepurse.machines import Machine
from onepurse.makers import beside, cheap, pieces, trimmed, turned, within
from onepurse.shop import Shop
from onepurse.tongue import machine_of, read_tolls
from onepurse.verdicts import verdict
from tests.samples import HUGE, all_of, slow_board

SIX = ("a", "b", "c", "d", "e", "f")
BAD_NAMES = ("", "abcdefghi", "A", "a1", "a b", " ", "-", "a_b", "\n", "a" * 20000)
LENGTHS = {"machine": 4, "tolls": 4, "turned": 3, "trimmed": 3, "pieces": 3, "beside": 4, "within": 4, "cheap": 4,
           "drop": 2, "arrow": 6, "strike": 6, "first": 3, "last": 3, "go": 4, "step": 3, "back": 2, "leave": 2, "many": 2}
# Each deed that makes a machine under the name that is put in, and could be done in some_shop.
MAKING = (("machine", "{}", 3, "abc"), ("tolls", "{}", "a!*", "ab"), ("turned", "{}", "one"), ("trimmed", "{}", "one"),
          ("pieces", "{}", "one"), ("beside", "{}", "one", "two"), ("within", "{}", "one", "two"), ("cheap", "{}", "one", 1))


def done(*deeds):
    """A shop in which deeds were done."""
    shop = Shop()
    for deed in deeds:
        shop.do(deed)
    return shop


def some_shop():
    """Two machines, and a traveller in one of them."""
    return done(("machine", "one", 2, "ab"), ("arrow", "one", 0, "a", "cent", 1), ("arrow", "one", 1, "b", "fill", 0),
                ("machine", "two", 1, "ab"), ("arrow", "two", 0, "a", "coin", 0), ("machine", "other", 1, "abc"),
                ("go", "tom", "one", 2), ("step", "tom", "a"))


def full_shop():
    """Six machines and six travellers."""
    return done(*[("machine", name, 1, "ab") for name in SIX], *[("go", name, "a", 0) for name in SIX])


def wide_shop(rooms=6):
    """A machine whose closing has more than 400 tables."""
    turn = [("arrow", "wide", room, "a", "keep", (room + 1) % rooms) for room in range(rooms)]
    swap = [("arrow", "wide", room, "b", "keep", {0: 1, 1: 0}.get(room, room)) for room in range(rooms)]
    return done(("machine", "wide", rooms, "ab"), *turn, *swap)


def things_of(shop):
    """The machines and the travellers of a shop."""
    return ({name: all_of(shop.machine(name)) for name in shop.machines()},
            {name: shop.traveller(name) for name in shop.travellers()})


def all_of_shop(shop):
    return (*things_of(shop), shop.deeds(), shop.undone(), shop.searched())


def named(deed, name):
    return (deed[0], name, *deed[2:])


class ShopCase(unittest.TestCase):
    def assert_refused(self, kind, shop, deed):
        before = all_of_shop(shop)
        for each in (deed, ("many", (deed,)), ("many", (deed, ()))):
            with self.assertRaises(kind, msg=each) as caught:
                shop.do(each)
            self.assertIs(type(caught.exception), kind, each)
            self.assertEqual(all_of_shop(shop), before, each)
        return caught.exception


class Making(ShopCase):
    def test_each_makes_its_machine(self):
        shop = some_shop()
        one, two = shop.machine("one"), shop.machine("two")
        told = {"machine": Machine(3, "abc"), "tolls": machine_of(read_tolls("a!*"), "ab"), "turned": turned(one),
                "trimmed": trimmed(one), "pieces": pieces(one), "beside": beside(one, two), "within": within(one, two),
                "cheap": cheap(one, 1)}
        for deed in MAKING:
            shop = some_shop()
            self.assertIsNone(shop.do(named(deed, "made")))
            self.assertEqual(shop.machines(), ["made", "one", "other", "two"])
            self.assertEqual(shop.machine("made"), told[deed[0]], deed)
            self.assertEqual((shop.machine("one"), shop.machine("two")), (one, two))
            self.assertEqual(shop.deeds()[-1], named(deed, "made"))
        self.assertEqual(all_of(done(("machine", "x", 8, "z")).machine("x")), (8, "z", [], [0], [0]))

    def test_of_what_stands_then(self):
        shop = some_shop()
        shop.do(("turned", "made", "one"))
        shop.do(("strike", "one", 0, "a", "cent", 1))
        shop.do(("turned", "again", "one"))
        self.assertEqual(len(shop.machine("made")), 2)
        self.assertEqual(len(shop.machine("again")), 1)
        shop.do(("beside", "both", "one", "one"))
        self.assertEqual(shop.machine("both").rooms(), 4)

    def test_names(self):
        for deed in MAKING:
            for name in ("a", "abcdefgh", "tom", "zzzzzzzz"):
                shop = some_shop()
                shop.do(named(deed, name))
                self.assertIn(name, shop.machines())
            for name in BAD_NAMES:
                self.assert_refused(BadName, some_shop(), named(deed, name))

    def test_bad_names_ahead_of_all(self):
        for name in BAD_NAMES:
            for deed in (("machine", name, 0, ""), ("tolls", name, "(", ""), ("turned", name, "gone"),
                         ("trimmed", name, ""), ("pieces", name, "gone"), ("beside", name, "gone", "gone"),
                         ("within", name, "a", "gone"), ("cheap", name, "gone", -1)):
                self.assert_refused(BadName, full_shop(), deed)

    def test_taken_ahead_of_full_and_the_rest(self):
        for deed in (("machine", "a", 0, ""), ("tolls", "b", "(", ""), ("turned", "c", "gone"), ("trimmed", "d", "gone"),
                     ("pieces", "e", "gone"), ("beside", "f", "gone", "a"), ("within", "a", "a", "gone"),
                     ("cheap", "a", "gone", -1)):
            self.assert_refused(Taken, full_shop(), deed)
        for deed in MAKING:
            self.assert_refused(Taken, some_shop(), named(deed, "two"))

    def test_full_ahead_of_the_rest(self):
        for deed in (("machine", "g", 0, ""), ("tolls", "g", "(", ""), ("turned", "g", "gone"), ("trimmed", "g", "gone"),
                     ("pieces", "g", "gone"), ("beside", "g", "gone", "a"), ("within", "g", "a", "gone"),
                     ("cheap", "g", "gone", -1), ("machine", "g", 1, "a")):
            self.assert_refused(Full, full_shop(), deed)
        shop = full_shop()
        shop.do(("drop", "f"))
        shop.do(("machine", "g", 1, "a"))
        self.assertEqual(shop.machines(), ["a", "b", "c", "d", "e", "g"])

    def test_machine_refused(self):
        for rooms in (0, 9, -1, HUGE, -HUGE):
            for letters in ("ab", "", "ba"):
                self.assert_refused(BadSize, some_shop(), ("machine", "x", rooms, letters))
        for letters in ("", "ba", "aa", "abcd", "A", " ", "a b"):
            self.assert_refused(BadLetters, some_shop(), ("machine", "x", 8, letters))

    def test_tolls_refused(self):
        for text, at in (("", 0), ("(", 1), ("a b", 1), ("a||b", 2), ("A", 0)):
            for letters in ("ab", "", "ba"):
                self.assertEqual(self.assert_refused(BadText, some_shop(), ("tolls", "x", text, letters)).at, at)
        for letters in ("", "b", "ba", "abcd"):
            for text in ("a", "a" * 8):
                self.assert_refused(BadLetters, some_shop(), ("tolls", "x", text, letters))
        self.assert_refused(Full, some_shop(), ("tolls", "x", "a" * 8, "a"))
        self.assert_refused(Full, some_shop(), ("tolls", "x", "(a|a|a|a|a|a)*", "a"))
        shop = some_shop()
        shop.do(("tolls", "x", "a" + "*?" * 99, "ab"))
        self.assertEqual(shop.machine("x").rooms(), 2)

    def test_machines_that_are_not_there(self):
        for deed in (("turned", "x", "gone"), ("trimmed", "x", "x"), ("pieces", "x", ""), ("beside", "x", "gone", "one"),
                     ("beside", "x", "one", "gone"), ("within", "x", "gone", "other"), ("within", "x", "other", "gone"),
                     ("cheap", "x", "gone", 0), ("cheap", "x", "gone", -1), ("cheap", "x", "tom", 13)):
            self.assert_refused(NoName, some_shop(), deed)

    def test_unlike_and_sizes_and_full(self):
        shop = some_shop()
        shop.do(("machine", "big", 8, "ab"))
        for kind in ("beside", "within"):
            self.assert_refused(Unlike, shop, (kind, "x", "one", "other"))
            self.assert_refused(Unlike, shop, (kind, "x", "other", "big"))
        self.assert_refused(Full, shop, ("beside", "x", "one", "big"))
        self.assert_refused(Full, shop, ("pieces", "x", "big"))
        for size in (-1, 13, HUGE, -HUGE):
            self.assert_refused(BadSize, shop, ("cheap", "x", "two", size))
        for size in (8, 12):
            self.assert_refused(Full, shop, ("cheap", "x", "two", size))
        shop.do(("cheap", "x", "one", 12))
        shop.do(("cheap", "y", "one", 0))
        self.assertEqual(len(shop), 6)

    def test_full_by_arrows(self):
        shop = done(("machine", "m", 4, "ab"))
        every = itertools.product(range(4), "ab", ("cent", "coin"), range(4))
        for start, letter, deed, end in itertools.islice(every, 21):
            shop.do(("arrow", "m", start, letter, deed, end))
        self.assert_refused(Full, shop, ("beside", "x", "m", "m"))
        shop.do(("strike", "m", 0, "a", "cent", 0))
        shop.do(("beside", "x", "m", "m"))
        self.assertEqual(len(shop.machine("x")), 40)

    def test_drop(self):
        shop = some_shop()
        self.assert_refused(NoName, shop, ("drop", "gone"))
        self.assert_refused(NoName, shop, ("drop", ""))
        self.assert_refused(NoName, shop, ("drop", "tom"))
        self.assert_refused(InUse, shop, ("drop", "one"))
        shop.do(("drop", "two"))
        self.assertEqual(shop.machines(), ["one", "other"])
        shop.do(("leave", "tom"))
        shop.do(("drop", "one"))
        self.assertEqual(shop.machines(), ["other"])
        shop.do(("machine", "one", 1, "z"))


class Turning(ShopCase):
    def test_arrow_and_strike(self):
        shop = some_shop()
        shop.do(("arrow", "one", 1, "a", "brim", 1))
        self.assertEqual(shop.machine("one").arrows(),
                         [(0, "a", "cent", 1), (1, "a", "brim", 1), (1, "b", "fill", 0)])
        shop.do(("strike", "one", 0, "a", "cent", 1))
        self.assertEqual(shop.machine("one").arrows(), [(1, "a", "brim", 1), (1, "b", "fill", 0)])
        self.assertEqual((shop.machine("one").firsts(), shop.machine("one").lasts()), ([0], [0]))

    def test_no_name_whatever_the_arrow_is(self):
        for kind in ("arrow", "strike"):
            for arrow in ((0, "a", "cent", 1), (-1, "", "no", HUGE)):
                for name in ("gone", "", "tom", "ONE"):
                    self.assert_refused(NoName, some_shop(), (kind, name, *arrow))

    def test_bad_arrows(self):
        for kind in ("arrow", "strike"):
            for arrow in ((2, "a", "cent", 0), (-1, "a", "cent", 0), (0, "a", "cent", 2), (0, "a", "cent", -1),
                          (0, "c", "cent", 0), (0, "", "cent", 0), (0, "ab", "cent", 0), (0, "a", "dear", 0),
                          (0, "a", "", 0), (HUGE, "a", "cent", 0)):
                self.assert_refused(BadArrow, some_shop(), (kind, "one", *arrow))

    def test_taken_and_missing_arrows(self):
        self.assert_refused(Taken, some_shop(), ("arrow", "one", 0, "a", "cent", 1))
        self.assert_refused(NoArrow, some_shop(), ("strike", "one", 0, "a", "coin", 1))

    def test_forty_arrows_and_one_more(self):
        shop = done(("machine", "m", 3, "ab"))
        every = list(itertools.product(range(3), "ab", ("cent", "coin", "keep"), range(3)))
        for arrow in every[:40]:
            shop.do(("arrow", "m", *arrow))
        self.assertEqual(len(shop.machine("m")), 40)
        self.assert_refused(Full, shop, ("arrow", "m", *every[40]))
        self.assert_refused(Taken, shop, ("arrow", "m", *every[0]))
        self.assert_refused(BadArrow, shop, ("arrow", "m", 3, "a", "cent", 0))
        shop.do(("strike", "m", *every[0]))
        shop.do(("arrow", "m", *every[40]))

    def test_first_and_last(self):
        shop = some_shop()
        shop.do(("first", "one", 1))
        shop.do(("last", "one", 1))
        self.assertEqual((shop.machine("one").firsts(), shop.machine("one").lasts()), ([0, 1], [0, 1]))
        shop.do(("first", "one", 0))
        shop.do(("last", "one", 0))
        self.assertEqual((shop.machine("one").firsts(), shop.machine("one").lasts()), ([1], [1]))
        shop.do(("first", "one", 1))
        shop.do(("last", "one", 1))
        self.assertEqual((shop.machine("one").firsts(), shop.machine("one").lasts()), ([], []))
        for kind in ("first", "last"):
            for room in (0, 9, -1):
                self.assert_refused(NoName, some_shop(), (kind, "gone", room))
            for room in (2, -1, -2, HUGE, -HUGE):
                self.assert_refused(BadRoom, some_shop(), (kind, "one", room))


class Travelling(ShopCase):
    def test_go_step_back_leave(self):
        shop = some_shop()
        self.assertEqual(shop.traveller("tom"), ("one", 2, "a"))
        self.assertEqual(shop.board("tom"), ((1, 1, 0),))
        shop.do(("step", "tom", "b"))
        self.assertEqual(shop.traveller("tom"), ("one", 2, "ab"))
        shop.do(("back", "tom"))
        shop.do(("back", "tom"))
        self.assertEqual(shop.traveller("tom"), ("one", 2, ""))
        self.assertEqual(shop.board("tom"), ((0, 0, 0),))
        shop.do(("go", "one", "one", 20))
        shop.do(("go", "abcdefgh", "two", 0))
        self.assertEqual(shop.travellers(), ["abcdefgh", "one", "tom"])
        shop.do(("leave", "tom"))
        self.assertEqual(shop.travellers(), ["abcdefgh", "one"])
        for ask in (shop.traveller, shop.board):
            with self.assertRaises(NoTraveller):
                ask("tom")

    def test_go_refused_in_order(self):
        for name in BAD_NAMES:
            self.assert_refused(BadName, full_shop(), ("go", name, "gone", -1))
        self.assert_refused(Taken, full_shop(), ("go", "a", "gone", -1))
        self.assert_refused(Full, full_shop(), ("go", "g", "gone", -1))
        self.assert_refused(Full, full_shop(), ("go", "g", "a", 0))
        for name in ("gone", "", "tom"):
            for size in (0, -1, 21):
                self.assert_refused(NoName, some_shop(), ("go", "tim", name, size))
        for size in (-1, 21, HUGE, -HUGE):
            self.assert_refused(BadSize, some_shop(), ("go", "tim", "one", size))
        shop = full_shop()
        shop.do(("leave", "c"))
        shop.do(("go", "g", "b", 20))
        self.assertEqual(len(shop.travellers()), 6)

    def test_step_refused_in_order(self):
        for letter in ("a", "c", "", "ab"):
            self.assert_refused(NoTraveller, some_shop(), ("step", "gone", letter))
            self.assert_refused(NoTraveller, some_shop(), ("step", "one", letter))
        for letter in ("c", "", "ab", "A", " ", "-"):
            self.assert_refused(BadWord, some_shop(), ("step", "tom", letter))
        shop = some_shop()
        for turn in range(59):
            shop.do(("step", "tom", "ab"[turn % 2]))
        self.assertEqual(len(shop.traveller("tom")[2]), 60)
        self.assert_refused(BadWord, shop, ("step", "tom", "c"))
        self.assert_refused(Full, shop, ("step", "tom", "a"))
        shop.do(("back", "tom"))
        shop.do(("step", "tom", "b"))

    def test_back_and_leave_refused(self):
        for kind in ("back", "leave"):
            for name in ("gone", "", "one"):
                self.assert_refused(NoTraveller, some_shop(), (kind, name))
        shop = some_shop()
        shop.do(("back", "tom"))
        self.assert_refused(NothingLeft, shop, ("back", "tom"))

    def test_a_board_behind_turns_of_its_machine(self):
        shop = some_shop()
        for deed in (("step", "tom", "b"), ("arrow", "one", 0, "a", "coin", 0), ("step", "tom", "a"), ("first", "one", 1),
                     ("arrow", "one", 1, "a", "cent", 1), ("step", "tom", "a"), ("strike", "one", 0, "a", "cent", 1),
                     ("last", "one", 1), ("first", "one", 0), ("step", "tom", "a"), ("back", "tom")):
            shop.do(deed)
            name, size, word = shop.traveller("tom")
            self.assertEqual(shop.board("tom"), slow_board(shop.machine("one"), word, size), deed)
        shop.do(("first", "one", 1))
        self.assertEqual(shop.board("tom"), ())

    def test_the_size_counts(self):
        shop = done(("tolls", "m", "a!*", "a"), ("go", "poor", "m", 0), ("go", "rich", "m", 20))
        for name in ("poor", "rich"):
            shop.do(("step", name, "a"))
        self.assertEqual(shop.board("poor"), ())
        self.assertEqual(shop.board("rich"), ((1, 1, 0),))


class Many(ShopCase):
    def test_of_none_and_of_several(self):
        shop = some_shop()
        before = things_of(shop)
        self.assertIsNone(shop.do(("many", ())))
        self.assertEqual(things_of(shop), before)
        self.assertEqual(shop.deeds()[-1], ("many", ()))
        many = ("many", (("machine", "x", 1, "a"), ("arrow", "x", 0, "a", "cent", 0), ("go", "tim", "x", 3),
                         ("step", "tim", "a"), ("leave", "tom"), ("drop", "one")))
        shop.do(many)
        self.assertEqual(shop.board("tim"), ((0, 1, 0),))
        self.assertEqual(shop.machines(), ["other", "two", "x"])
        self.assertEqual(shop.deeds()[-2:], [("many", ()), many])
        self.assertEqual(shop.undo(), many)
        self.assertEqual(things_of(shop), before)
        self.assertEqual(shop.redo(), many)
        self.assertEqual(shop.travellers(), ["tim"])

    def test_if_one_is_refused_none_is_done(self):
        good = (("machine", "x", 1, "a"), ("leave", "tom"), ("drop", "two"))
        for at in range(4):
            for bad, kind in ((("drop", "gone"), NoName), (("machine", "other", 1, "a"), Taken), ((), BadDeed),
                              (("nope",), BadDeed), (("drop",), BadDeed), (("many", ()), BadDeed),
                              (("back", "gone"), NoTraveller), (("go", "x", "one", 99), BadSize)):
                shop = some_shop()
                before = all_of_shop(shop)
                with self.assertRaises(kind):
                    shop.do(("many", good[:at] + (bad,) + good[at:]))
                self.assertEqual(all_of_shop(shop), before)

    def test_the_refusal_of_the_first_one_is_told(self):
        for first, second, kind in ((("drop", "gone"), (), NoName), ((), ("drop", "gone"), BadDeed),
                                    (("drop", "gone"), ("many", ()), NoName), (("many", ()), ("drop", "gone"), BadDeed),
                                    (("leave", "gone"), ("nope", 1), NoTraveller)):
            with self.assertRaises(kind):
                some_shop().do(("many", (first, second)))

    def test_a_deed_may_need_one_ahead(self):
        shop = Shop()
        shop.do(("many", tuple(("machine", name, 1, "a") for name in SIX)))
        self.assertEqual(len(shop), 6)
        shop.do(("many", (("drop", "a"), ("machine", "g", 1, "a"))))
        with self.assertRaises(Full):
            shop.do(("many", (("machine", "h", 1, "a"), ("drop", "g"))))


class BadDeeds(ShopCase):
    def test_without_things_and_of_another_first_text(self):
        for deed in ((), ("",), ("nope",), ("Machine", "x", 1, "a"), ("undo",), ("bare", "x", "one"), ("price", "one", "a"),
                     ("ask", "one"), ("machine ", "x", 1, "a")):
            self.assert_refused(BadDeed, some_shop(), deed)

    def test_of_another_count_of_things(self):
        for kind, length in LENGTHS.items():
            for count in range(1, 9):
                if count != length:
                    for thing in ("one", "gone", 0):
                        self.assert_refused(BadDeed, some_shop(), (kind,) + (thing,) * (count - 1))
                        self.assert_refused(BadDeed, full_shop(), (kind,) + (thing,) * (count - 1))

    def test_a_many_within_a_many(self):
        for inner in (("many", ()), ("many", (("drop", "two"),)), ("many", (("many", ()),))):
            with self.assertRaises(BadDeed):
                some_shop().do(("many", (inner,)))
            with self.assertRaises(BadDeed):
                some_shop().do(("many", (("drop", "two"), inner)))


def deeds_by_chance(seed, count):
    """Deeds of all kinds, good ones and such as are refused."""
    chance = random.Random(seed)
    names = ["a", "b", "c", "dd", "eee", "f", "g", "Bad"]

    def thing(kind):
        return {"name": chance.choice(names), "room": chance.randrange(-1, 4), "letters": chance.choice(["a", "ab", "ba"]),
                "letter": chance.choice("abc"), "size": chance.choice([0, 1, 2, 20, 21]),
                "deed": chance.choice(["keep", "cent", "fill", "coin", "brim", "dear"]),
                "text": chance.choice(["a!*", "(a|b)*", "ab?", "a|", "a" * 8])}[kind]

    forms = {"machine": "name room letters", "tolls": "name text letters", "turned": "name name", "trimmed": "name name",
             "pieces": "name name", "beside": "name name name", "within": "name name name", "cheap": "name name size",
             "drop": "name", "arrow": "name room letter deed room", "strike": "name room letter deed room",
             "first": "name room", "last": "name room", "go": "name name size", "step": "name letter", "back": "name",
             "leave": "name"}
    kinds = [*forms, *["arrow", "step", "go", "machine"] * 3]

    arrows = []

    def one():
        kind = chance.choice(kinds)
        if kind == "strike" and arrows:
            return ("strike", *chance.choice(arrows)[1:])
        deed = (kind, *[thing(part) for part in forms[kind].split()])
        if kind == "arrow":
            arrows.append(deed)
        return deed

    for turn in range(count):
        yield one() if chance.random() < 0.9 else ("many", tuple(one() for part in range(chance.randrange(3))))


REFUSALS = (BadArrow, BadLetters, BadName, BadRoom, BadSize, BadText, BadWord, Full, InUse, NoArrow, NoName, NothingLeft,
            NoTraveller, Taken, Unlike)


class UndoRedo(ShopCase):
    def test_nothing_left(self):
        shop = Shop()
        for ask in (shop.undo, shop.redo):
            with self.assertRaises(NothingLeft):
                ask()
        shop.do(("machine", "a", 1, "a"))
        with self.assertRaises(NothingLeft):
            shop.redo()
        self.assertEqual(shop.undo(), ("machine", "a", 1, "a"))
        with self.assertRaises(NothingLeft):
            shop.undo()
        self.assertEqual(all_of_shop(shop), ({}, {}, [], [("machine", "a", 1, "a")], 0))
        self.assertEqual(shop.redo(), ("machine", "a", 1, "a"))
        with self.assertRaises(NothingLeft):
            shop.redo()

    def test_through_all_deeds(self):
        kinds = set()
        for seed in range(12):
            shop, states = Shop(), []
            for deed in deeds_by_chance(seed, 160):
                before = all_of_shop(shop)
                try:
                    shop.do(deed)
                except REFUSALS:
                    self.assertEqual(all_of_shop(shop), before)
                    continue
                kinds.add(deed[0])
                states.append((deed, things_of(shop)))
                self.assertEqual(shop.deeds()[-1], deed)
            deeds = [deed for deed, state in states]
            self.assertEqual(shop.deeds(), deeds)
            for at in reversed(range(len(states))):
                self.assertEqual(things_of(shop), states[at][1])
                self.assertEqual(shop.undo(), deeds[at])
                self.assertEqual((shop.deeds(), shop.undone()), (deeds[:at], deeds[at:]))
            self.assertEqual(shop, Shop())
            for deed, state in states:
                self.assertEqual(shop.redo(), deed)
                self.assertEqual(things_of(shop), state)
            self.assertEqual((shop.deeds(), shop.undone()), (deeds, []))
        self.assertEqual(kinds, set(LENGTHS))

    def test_a_new_deed_and_a_refused_one(self):
        shop = some_shop()
        for turn in range(3):
            shop.undo()
        undone = shop.undone()
        self.assertEqual(undone, [("machine", "other", 1, "abc"), ("go", "tom", "one", 2), ("step", "tom", "a")])
        for bad in (("drop", "gone"), (), ("many", (("drop", "two"), ("drop", "gone")))):
            with self.assertRaises((NoName, BadDeed)):
                shop.do(bad)
            self.assertEqual(shop.undone(), undone)
        self.assertEqual(shop.redo(), undone[0])
        shop.do(("many", ()))
        self.assertEqual(shop.undone(), [])
        with self.assertRaises(NothingLeft):
            shop.redo()
        self.assertEqual(shop.undo(), ("many", ()))

    def test_lists_are_new_ones(self):
        shop = some_shop()
        shop.undo()
        before = all_of_shop(shop)
        for ask in (shop.deeds, shop.undone, shop.machines, shop.travellers):
            found = ask()
            self.assertIsInstance(found, list)
            found.append("more")
            found.reverse()
        self.assertEqual(all_of_shop(shop), before)


class Equality(ShopCase):
    def test_equal_where_machines_and_travellers_are(self):
        one, other = Shop(), Shop()
        self.assertTrue(one == other)
        self.assertFalse(one != other)
        one.do(("machine", "a", 1, "a"))
        self.assertFalse(one == other)
        other.do(("tolls", "a", "-", "a"))
        self.assertTrue(one == other)
        one.do(("go", "t", "a", 1))
        self.assertFalse(one == other)
        other.do(("go", "t", "a", 2))
        self.assertFalse(one == other)
        other.do(("leave", "t"))
        other.do(("go", "t", "a", 1))
        self.assertTrue(one == other)
        one.do(("step", "t", "a"))
        self.assertTrue(one != other)
        one.undo()
        self.assertTrue(one == other)
        one.ask("a")
        self.assertTrue(one == other)
        one.do(("machine", "b", 1, "a"))
        other.do(("machine", "c", 1, "a"))
        self.assertFalse(one == other)

    def test_order_does_not_count(self):
        one = done(("machine", "a", 1, "a"), ("machine", "b", 2, "a"))
        other = done(("machine", "b", 2, "a"), ("machine", "a", 1, "a"))
        self.assertTrue(one == other)

    def test_to_nothing_else(self):
        for other in (None, 0, "", {}, [], (), {"a": Machine(1, "a")}, Machine(1, "a")):
            self.assertFalse(Shop() == other)
            self.assertTrue(Shop() != other)

    def test_length_truth_and_repr(self):
        self.assertEqual((len(Shop()), bool(Shop()), repr(Shop())), (0, False, "Shop(0 machines, 0 travellers)"))
        shop = done(("machine", "a", 1, "a"))
        self.assertEqual((len(shop), bool(shop), repr(shop)), (1, True, "Shop(1 machines, 0 travellers)"))
        self.assertEqual((len(some_shop()), bool(some_shop()), repr(some_shop())),
                         (3, True, "Shop(3 machines, 1 travellers)"))
        self.assertEqual(repr(full_shop()), "Shop(6 machines, 6 travellers)")
        shop.undo()
        self.assertEqual((len(shop), bool(shop)), (0, False))

    def test_asked_for_what_is_not_there(self):
        shop = some_shop()
        for ask in (shop.machine, shop.ask):
            for name in ("gone", "", "tom", "ONE"):
                with self.assertRaises(NoName):
                    ask(name)
        for ask in (shop.traveller, shop.board):
            for name in ("gone", "", "one"):
                with self.assertRaises(NoTraveller):
                    ask(name)
        self.assertEqual(shop.searched(), 0)


class Twins(ShopCase):
    def test_all_of_it(self):
        shop = some_shop()
        shop.ask("one")
        shop.undo()
        shop.undo()
        twin = shop.twin()
        self.assertEqual(twin, shop)
        self.assertEqual(all_of_shop(twin), all_of_shop(shop))
        self.assertIsInstance(twin, Shop)
        self.assertEqual(twin.redo(), ("go", "tom", "one", 2))
        self.assertEqual(twin.undo(), ("go", "tom", "one", 2))
        for turn in range(6):
            twin.undo()
        self.assertEqual(twin, Shop())

    def test_neither_changes_the_other(self):
        deeds = (("machine", "x", 1, "a"), ("arrow", "one", 0, "b", "keep", 0), ("step", "tom", "b"), ("leave", "tom"),
                 ("drop", "two"), ("first", "one", 1), ("many", (("back", "tom"), ("drop", "other"))))
        for deed in deeds:
            for change in (lambda shop: shop.do(deed), lambda shop: shop.undo(), lambda shop: shop.redo(),
                           lambda shop: shop.ask("one")):
                shop = some_shop()
                shop.do(("many", ()))
                shop.undo()
                twin = shop.twin()
                before = all_of_shop(shop)
                change(twin)
                self.assertNotEqual(all_of_shop(twin), before)
                self.assertEqual(all_of_shop(shop), before)
                twin = shop.twin()
                change(shop)
                self.assertEqual(all_of_shop(twin), before)

    def test_twins_of_twins(self):
        shop = some_shop()
        twin = shop.twin().twin()
        twin.undo()
        self.assertEqual(len(shop.deeds()), len(twin.deeds()) + 1)


class Ask(ShopCase):
    def test_told_as_searched(self):
        shop = some_shop()
        self.assertEqual(shop.ask("one"), verdict(shop.machine("one")))
        self.assertEqual(shop.ask("two"), ("never", "(a)"))
        self.assertEqual(shop.searched(), 2)

    def test_once_for_equal_machines(self):
        shop = some_shop()
        told = shop.ask("one")
        for turn in range(3):
            self.assertEqual(shop.ask("one"), told)
        self.assertEqual(shop.searched(), 1)
        shop.do(("turned", "there", "one"))
        shop.do(("turned", "back", "there"))
        self.assertEqual(shop.machine("back"), shop.machine("one"))
        self.assertEqual(shop.ask("back"), told)
        self.assertEqual(shop.searched(), 1)
        shop.ask("there")
        self.assertEqual(shop.searched(), 2)

    def test_behind_deeds_undo_and_redo(self):
        shop = some_shop()
        told = shop.ask("one")
        shop.do(("arrow", "one", 1, "b", "coin", 1))
        shop.ask("one")
        self.assertEqual(shop.searched(), 2)
        shop.do(("strike", "one", 1, "b", "coin", 1))
        self.assertEqual(shop.ask("one"), told)
        shop.undo()
        shop.ask("one")
        shop.undo()
        self.assertEqual(shop.ask("one"), told)
        shop.redo()
        shop.ask("one")
        self.assertEqual(shop.searched(), 2)
        while shop.deeds():
            shop.undo()
        self.assertEqual(shop.searched(), 2)
        for deed in some_shop().deeds():
            shop.do(deed)
        self.assertEqual(shop.ask("one"), told)
        self.assertEqual(shop.searched(), 2)

    def test_what_is_unlike_is_searched(self):
        shop = done(("machine", "a", 1, "a"))
        for deed in (("first", "a", 0), ("last", "a", 0), ("first", "a", 0), ("arrow", "a", 0, "a", "cent", 0)):
            before = shop.searched()
            shop.ask("a")
            self.assertEqual(shop.searched(), before + 1)
            shop.do(deed)
        shop.do(("machine", "b", 1, "ab"))
        shop.do(("machine", "c", 2, "a"))
        shop.ask("b")
        shop.ask("c")
        self.assertEqual(shop.searched(), 6)

    def test_told_lists_are_new_ones(self):
        shop = some_shop()
        told = shop.ask("one")
        copy = list(told[3])
        told[3].clear()
        again = shop.ask("one")
        self.assertEqual(again[3], copy)
        again[3].append(None)
        twin = shop.twin()
        self.assertEqual(twin.ask("one")[3], copy)
        twin.ask("one")[3].clear()
        self.assertEqual(shop.ask("one")[3], copy)
        self.assertIsInstance(told[3], list)

    def test_twins(self):
        shop = some_shop()
        shop.ask("one")
        twin = shop.twin()
        self.assertEqual(twin.searched(), 1)
        twin.ask("one")
        self.assertEqual(twin.searched(), 1)
        twin.ask("two")
        self.assertEqual((shop.searched(), twin.searched()), (1, 2))
        shop.ask("two")
        self.assertEqual((shop.searched(), twin.searched()), (2, 2))

    def test_too_wide(self):
        for rooms in (6, 7):
            shop = wide_shop(rooms)
            before = things_of(shop)
            for count in (1, 2, 3):
                with self.assertRaises(TooWide) as caught:
                    shop.ask("wide")
                self.assertEqual(caught.exception.most, 400)
                self.assertEqual(shop.searched(), count)
            self.assertEqual(things_of(shop), before)
            twin = shop.twin()
            with self.assertRaises(TooWide):
                twin.ask("wide")
            self.assertEqual((shop.searched(), twin.searched()), (3, 4))

    def test_asking_changes_nothing_else(self):
        shop = some_shop()
        shop.undo()
        before = all_of_shop(shop)
        shop.ask("one")
        shop.machine("one")
        shop.board("tom")
        self.assertEqual(all_of_shop(shop)[:4], before[:4])
        self.assertEqual(shop, shop.twin())

    def test_boards_by_the_program(self):
        shop = some_shop()
        self.assertEqual(shop.board("tom"), board_of(shop.machine("one"), "a", size=2))


if __name__ == "__main__":
    unittest.main()
