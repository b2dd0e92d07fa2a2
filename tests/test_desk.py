"""Point [26], and [2] where it touches onepurse.desk."""

import itertools
import unittest

from onepurse.desk import Desk
from onepurse.errors import Missing, NothingLeft, PurseError
from onepurse.machines import Machine
from onepurse.prices import price
from onepurse.shop import Shop
from onepurse.verdicts import verdict
from tests.test_shop import SIX, all_of_shop, deeds_by_chance, done, full_shop, some_shop, things_of, wide_shop

OPENING = ("machine one 2 ab", "arrow one 0 a cent 1", "arrow one 1 b fill 0", "machine two 1 ab", "arrow two 0 a coin 0",
           "machine other 1 abc", "go tom one 2", "step tom a")
# A line of each deed that can be done behind OPENING.
GOOD = ("machine x 8 abc", "tolls x (a!|b.)* ab", "turned x one", "trimmed x one", "pieces x one", "beside x one two",
        "within x one two", "cheap x one 12", "drop two", "arrow one 0 b brim 1", "strike one 0 a cent 1", "first one 1",
        "last one 0", "go tim two 20", "step tom b", "back tom", "leave tom")


def opened():
    desk = Desk()
    for line in OPENING:
        desk.say(line)
    return desk


class DeskCase(unittest.TestCase):
    def assert_says(self, desk, line, told):
        self.assertEqual(desk.say(line), told, line)

    def assert_refused(self, desk, line, told):
        before = all_of_shop(desk.shop())
        self.assert_says(desk, line, told)
        self.assertEqual(all_of_shop(desk.shop()), before, line)


class Deeds(DeskCase):
    def test_done(self):
        desk = Desk()
        for line in OPENING:
            self.assert_says(desk, line, "done")
        self.assertEqual(desk.shop(), some_shop())
        self.assertEqual(desk.shop().deeds(), some_shop().deeds())

    def test_each_deed(self):
        for line in GOOD:
            desk = opened()
            before = desk.shop()
            self.assert_says(desk, line, "done")
            words = line.split(" ")
            deed = desk.shop().deeds()[-1]
            self.assertEqual(deed[0], words[0])
            self.assertEqual([str(thing) for thing in deed], words)
            self.assertNotEqual(desk.shop(), before)
            self.assert_says(desk, "undo", line)
            self.assertEqual(desk.shop(), before)
            self.assert_says(desk, "redo", line)
            self.assert_says(desk, "redo", "no nothingleft")

    def test_numbers_become_numbers(self):
        desk = opened()
        desk.say("arrow one 0 b brim 1")
        desk.say("cheap x one 3")
        desk.say("go tim x 7")
        self.assertEqual(desk.shop().deeds()[-3:],
                         [("arrow", "one", 0, "b", "brim", 1), ("cheap", "x", "one", 3), ("go", "tim", "x", 7)])

    def test_refused(self):
        told = {
            "machine ONE 2 ab": "badname", "machine one 0 zz": "taken", "machine x 9 ab": "badsize",
            "machine x 999999 ab": "badsize", "machine x 0 ab": "badsize", "machine x 2 ba": "badletters",
            "machine x 2 2": "badletters", "tolls x a| ab": "badtext", "tolls x a b": "badletters",
            "tolls x aaaaaaaa ab": "full", "turned x gone": "noname", "beside x one other": "unlike",
            "within x one gone": "noname", "cheap x one 13": "badsize", "cheap x two 12": "full", "drop gone": "noname",
            "drop one": "inuse", "arrow gone 0 a no 7": "noname", "arrow one 0 a no 1": "badarrow",
            "arrow one 0 a cent 1": "taken", "strike one 0 a coin 1": "noarrow", "strike one 9 a coin 1": "badarrow",
            "first one 2": "badroom", "last gone 2": "noname", "go tom gone 99": "taken", "go tim gone 99": "noname",
            "go tim one 21": "badsize", "go T one 0": "badname", "step gone a": "notraveller", "step tom c": "badword",
            "step tom ab": "badword", "step tom -": "badword", "back gone": "notraveller", "leave one": "notraveller",
        }
        for line, word in told.items():
            self.assert_refused(opened(), line, "no " + word)
        desk = opened()
        desk.say("back tom")
        self.assert_refused(desk, "back tom", "no nothingleft")
        full = Desk(full_shop())
        self.assert_refused(full, "machine g 1 a", "no full")
        self.assert_refused(full, "go g a 0", "no full")

    def test_as_a_shop_does_them(self):
        answers = set()
        for seed in range(10):
            desk, shop = Desk(), Shop()
            for deed in deeds_by_chance(seed, 120):
                if deed[0] == "many" or -1 in deed:
                    continue
                try:
                    shop.do(deed)
                    told = "done"
                except (PurseError, Missing, NothingLeft) as refusal:
                    told = "no " + type(refusal).__name__.lower()
                answers.add(told)
                self.assert_says(desk, " ".join(str(thing) for thing in deed), told)
            self.assertEqual(things_of(desk.shop()), things_of(shop))
            self.assertEqual(desk.shop().deeds(), shop.deeds())
        self.assertGreater(len(answers), 10)


class UndoRedo(DeskCase):
    def test_nothing_left(self):
        desk = Desk()
        for line in ("undo", "redo"):
            self.assert_refused(desk, line, "no nothingleft")

    def test_through_all(self):
        desk = opened()
        for line in reversed(OPENING):
            self.assert_says(desk, "undo", line)
        self.assert_says(desk, "undo", "no nothingleft")
        self.assertEqual(desk.shop(), Shop())
        for line in OPENING:
            self.assert_says(desk, "redo", line)
        self.assert_says(desk, "redo", "no nothingleft")
        self.assert_says(desk, "undo", OPENING[-1])
        self.assert_says(desk, "drop gone", "no noname")
        self.assert_says(desk, "what is this", "what")
        self.assert_says(desk, "redo", OPENING[-1])
        self.assert_says(desk, "undo", OPENING[-1])
        self.assert_says(desk, "leave tom", "done")
        self.assert_says(desk, "redo", "no nothingleft")

    def test_a_many(self):
        for count in (0, 1, 3):
            shop = some_shop()
            shop.do(("many", (("step", "tom", "b"),) * min(count, 1) + (("back", "tom"),) * max(0, count - 1)))
            desk = Desk(shop)
            self.assert_says(desk, "undo", f"many {count}")
            self.assertEqual(desk.shop(), some_shop())
            self.assert_says(desk, "redo", f"many {count}")
            self.assertEqual(desk.shop(), shop)


class Asking(DeskCase):
    def test_names(self):
        desk = Desk()
        self.assert_says(desk, "machines", "none")
        self.assert_says(desk, "travellers", "none")
        self.assert_says(opened(), "machines", "one other two")
        self.assert_says(opened(), "travellers", "tom")
        full = Desk(full_shop())
        self.assert_says(full, "machines", " ".join(SIX))
        self.assert_says(full, "travellers", " ".join(SIX))

    def test_price(self):
        desk = opened()
        for line, told in (("price one ab", "1"), ("price one -", "0"), ("price one aa", "none"), ("price two aaa", "3"),
                           ("price two " + "a" * 60, "60"), ("price two " + "a" * 61, "no badword"),
                           ("price one c", "no badword"), ("price one --", "no badword"), ("price one 0", "no badword"),
                           ("price gone ab", "no noname"), ("price gone zz", "no noname"), ("price tom a", "no noname")):
            self.assert_refused(desk, line, told)
        desk.say("first one 0")
        self.assert_says(desk, "price one -", "none")

    def test_ask(self):
        desk = opened()
        self.assert_says(desk, "ask one", "enough 1 ab")
        self.assert_says(desk, "ask two", "never (a)")
        self.assert_says(desk, "ask other", "enough 0 -")
        self.assert_says(desk, "ask gone", "no noname")
        self.assertEqual(desk.shop().searched(), 3)
        self.assert_says(desk, "ask one", "enough 1 ab")
        self.assertEqual(desk.shop().searched(), 3)
        desk.say("first other 0")
        self.assert_says(desk, "ask other", "enough 0 none")
        desk.say("tolls free ab? ab")
        self.assert_says(desk, "ask free", "enough 0 a")
        wide = Desk(wide_shop())
        for count in (1, 2):
            self.assert_says(wide, "ask wide", "no toowide")
            self.assertEqual(wide.shop().searched(), count)

    def test_ask_as_verdicts_tell(self):
        for text in ("(a!|b)*", "a!b?", "(a!b.)*", "(a$b:)*a", "-", "(a!a!)?b", "a!*|a*"):
            desk = Desk()
            desk.say(f"tolls m {text} ab")
            told = verdict(desk.shop().machine("m"))
            if told[0] == "never":
                self.assert_says(desk, "ask m", f"never {told[1]}")
            else:
                self.assert_says(desk, "ask m", f"enough {told[1]} {told[2] or '-'}")

    def test_board(self):
        desk = opened()
        self.assert_refused(desk, "board tom", "1:1:0")
        desk.say("arrow one 0 a coin 1")
        self.assert_refused(desk, "board tom", "1:0:1 1:1:0")
        desk.say("first one 1")
        desk.say("back tom")
        self.assert_refused(desk, "board tom", "0:0:0 1:0:0")
        desk.say("first one 0")
        desk.say("first one 1")
        self.assert_refused(desk, "board tom", "none")
        for name in ("gone", "one", "TOM"):
            self.assert_refused(desk, f"board {name}", "no notraveller")

    def test_prices_as_the_program_tells(self):
        desk = opened()
        machine = Machine(2, "ab", [(0, "a", "cent", 1), (1, "b", "fill", 0)])
        for length in range(5):
            for signs in itertools.product("ab", repeat=length):
                word = "".join(signs)
                told = price(machine, word)
                self.assert_says(desk, f"price one {word or '-'}", "none" if told is None else str(told))


class What(DeskCase):
    def test_no_lines(self):
        for line in ("", " ", "  ", "\n", "what", "done", "many", "many 0", "many 1", "deeds", "Machines", "UNDO", "bare x one",
                     "page", "machine", "undo ", " undo", "undo 1", "redo redo", "machines all", "travellers  ",
                     "price", "price one", "price one a b", "price one ", "price  one a", "ask", "ask one two", "ask  one",
                     "ask one ", "board", "board tom tim", "undo\n", "undo\nundo", "undo!"):
            self.assert_refused(opened(), line, "what")

    def test_counts_of_words(self):
        for line in GOOD + OPENING[:2]:
            words = line.split(" ")
            for other in (words[:-1], words + ["a"], words + ["0"], words[:1]):
                self.assert_refused(opened(), " ".join(other), "what")

    def test_words_without_signs(self):
        for line in GOOD:
            words = line.split(" ")
            for at in range(len(words) + 1):
                self.assert_refused(opened(), " ".join(words[:at] + [""] + words[at:]), "what")
                if at < len(words):
                    self.assert_refused(opened(), " ".join(words[:at] + [""] + words[at + 1:]), "what")

    def test_what_should_be_a_number(self):
        places = {"machine x {} abc": "badsize", "cheap x one {}": "badsize", "arrow one {} b brim 1": "badarrow",
                  "arrow one 0 b brim {}": "badarrow", "strike one {} a cent 1": "badarrow",
                  "strike one 0 a cent {}": "badarrow", "first one {}": "badroom", "last one {}": "badroom",
                  "go tim one {}": "badsize"}
        for form, refusal in places.items():
            for text in ("-1", "+1", "01", "00", "1.0", "one", "a", "-", "1a", "a1", "1000000", "0999999", "1,0", "1_0", "0x1",
                         "9" * 30, "9" * 5000, "1\n", "--", "none", "(1)"):
                self.assert_refused(opened(), form.format(text), "what")
            for text in ("999999", "100000", "42"):
                self.assert_refused(opened(), form.format(text), "no " + refusal)
            for text in ("0", "1"):
                self.assertNotEqual(opened().say(form.format(text)), "what")
        # The number is looked at ahead of all refusals.
        self.assert_refused(opened(), "first gone one", "what")
        self.assert_refused(opened(), "machine ONE 1.5 ab", "what")

    def test_what_should_be_no_number_may_be_one(self):
        for line, told in (("drop 1", "no noname"), ("step tom 1", "no badword"), ("machine 1 1 a", "no badname"),
                           ("price one 12", "no badword"), ("board 1", "no notraveller"), ("ask 01", "no noname")):
            self.assert_refused(opened(), line, told)

    def test_line_feeds_stand_in_words(self):
        for line, told in (("drop two\n", "no noname"), ("step tom a\n", "no badword"), ("machine x\n 1 a", "no badname"),
                           ("price one a\n", "no badword")):
            self.assert_refused(opened(), line, told)


class Shops(DeskCase):
    def test_a_twin_of_the_shop_handed_in(self):
        shop = some_shop()
        shop.ask("one")
        shop.undo()
        before = all_of_shop(shop)
        desk = Desk(shop)
        self.assertEqual(all_of_shop(desk.shop()), before)
        for line in ("redo", "undo", "undo", "machine x 1 a", "ask two", "drop x"):
            desk.say(line)
        self.assertEqual(all_of_shop(shop), before)
        shop.do(("drop", "two"))
        self.assertEqual(desk.shop().machines(), ["one", "other", "two"])

    def test_an_empty_shop_with_a_past(self):
        shop = done(("machine", "a", 1, "a"))
        shop.undo()
        self.assertEqual(Desk(shop).say("redo"), "machine a 1 a")
        self.assertEqual(Desk(shop=shop).say("redo"), "machine a 1 a")

    def test_shop_tells_a_twin(self):
        desk = opened()
        before = all_of_shop(desk.shop())
        told = desk.shop()
        self.assertIsInstance(told, Shop)
        told.do(("machine", "x", 1, "a"))
        told.ask("one")
        self.assertEqual(all_of_shop(desk.shop()), before)
        desk.say("undo")
        self.assertEqual(told.machines(), ["one", "other", "two", "x"])

    def test_desks_of_their_own(self):
        one, other = Desk(), Desk()
        one.say("machine a 1 a")
        self.assert_says(other, "machines", "none")
        self.assertEqual(Desk(None).shop(), Shop())
        self.assertEqual(one.say(line="machines"), "a")


if __name__ == "__main__":
    unittest.main()
