"""Point [25], and [2] where it touches onepurse.pages."""

import itertools
import random
import re
import unittest

from onepurse.errors import BadPage
from onepurse.machines import Machine
from onepurse.pages import page, shop_of
from onepurse.shop import Shop
from tests.test_shop import all_of_shop, deeds_by_chance, done, full_shop, REFUSALS, some_shop, things_of

SOME = """machine one 2 ab 0 0
arrow 0 a cent 1
arrow 1 b fill 0
machine other 1 abc 0 0
machine two 1 ab 0 0
arrow 0 a coin 0
traveller tom one 2 a
"""
DEEDS = ("keep", "cent", "fill", "coin", "brim")
NUMBER = "(0|[1-9][0-9]*)"
ROOMS = f"(-|{NUMBER}(?:,{NUMBER})*)"


def rising_rooms(text, count):
    """Whether a text writes rooms of so many as it should."""
    if text == "-":
        return True
    parts = text.split(",")
    if not all(re.fullmatch(NUMBER, part) and len(part) < 9 for part in parts):
        return False
    rooms = [int(part) for part in parts]
    return rooms == sorted(set(rooms)) and rooms[-1] < count


def slow_fault(text):
    """The row of BadPage, or None where the text is a page."""
    machines, travellers, arrows = {}, [], []
    rows = text.split("\n")
    for at, row in enumerate(rows[:-1]):
        machine = re.fullmatch(r"machine ([a-z]{1,8}) ([1-8]) ([a-z]{1,3}) ([-0-9,]+) ([-0-9,]+)", row)
        arrow = re.fullmatch(r"arrow ([0-7]) ([a-z]) (keep|cent|fill|coin|brim) ([0-7])", row)
        traveller = re.fullmatch(r"traveller ([a-z]{1,8}) ([a-z]{1,8}) ([0-9]|1[0-9]|20) (-|[a-z]{1,60})", row)
        if machine and not travellers and len(machines) < 6 and all(name < machine[1] for name in machines):
            letters, count = machine[3], int(machine[2])
            if list(letters) != sorted(set(letters)) or not all(rising_rooms(machine[part], count) for part in (4, 5)):
                return at
            machines[machine[1]] = (letters, count)
            arrows = []
        elif arrow and machines and not travellers and len(arrows) < 40:
            letters, count = list(machines.values())[-1]
            told = (int(arrow[1]), arrow[2], arrow[3], int(arrow[4]))
            if arrow[2] not in letters or max(told[0], told[3]) >= count or (arrows and told <= arrows[-1]):
                return at
            arrows.append(told)
        elif traveller and len(travellers) < 6 and all(name < traveller[1] for name in travellers):
            letters = machines.get(traveller[2], ("", 0))[0]
            if traveller[2] not in machines or (traveller[4] != "-" and not set(traveller[4]) <= set(letters)):
                return at
            travellers.append(traveller[1])
        else:
            return at
    return len(rows) - 1 if rows[-1] else None


def some_pages():
    """Pages of shops of all kinds."""
    yield page(Shop())
    yield SOME
    yield page(full_shop())
    for seed in range(12):
        shop = Shop()
        for deed in deeds_by_chance(seed, 120):
            try:
                shop.do(deed)
            except REFUSALS:
                pass
        yield page(shop)


class PageCase(unittest.TestCase):
    def assert_fault(self, text, row):
        with self.assertRaises(BadPage, msg=text) as caught:
            shop_of(text)
        self.assertEqual(caught.exception.row, row, text)


class Page(PageCase):
    def test_told_ones(self):
        self.assertEqual(page(Shop()), "")
        self.assertEqual(page(some_shop()), SOME)
        shop = done(("machine", "b", 3, "xyz"), ("last", "b", 0), ("first", "b", 2), ("first", "b", 1), ("machine", "a", 1, "q"),
                    ("go", "z", "b", 20), ("go", "a", "b", 0), ("step", "z", "x"), ("step", "z", "z"), ("first", "a", 0))
        self.assertEqual(page(shop), "machine a 1 q - 0\nmachine b 3 xyz 0,1,2 -\ntraveller a b 0 -\ntraveller z b 20 xz\n")

    def test_arrows_rise(self):
        shop = done(("machine", "m", 2, "ab"), *[("arrow", "m", *arrow) for arrow in (
            (1, "a", "keep", 0), (0, "b", "keep", 0), (0, "a", "keep", 1), (0, "a", "keep", 0), (0, "a", "brim", 1))])
        self.assertEqual(page(shop), "machine m 2 ab 0 0\narrow 0 a brim 1\narrow 0 a keep 0\narrow 0 a keep 1\n"
                                     "arrow 0 b keep 0\narrow 1 a keep 0\n")

    def test_the_shop_stays(self):
        shop = some_shop()
        shop.undo()
        before = all_of_shop(shop)
        page(shop)
        self.assertEqual(all_of_shop(shop), before)

    def test_by_name(self):
        self.assertEqual(page(shop=some_shop()), SOME)
        self.assertEqual(shop_of(text=SOME), some_shop())


class ReadBack(PageCase):
    def test_an_equal_shop_in_which_nothing_can_be_taken_back(self):
        for text in some_pages():
            shop = shop_of(text)
            self.assertIsInstance(shop, Shop)
            self.assertEqual(page(shop), text)
            self.assertEqual((shop.deeds(), shop.undone(), shop.searched()), ([], [], 0))
            self.assertEqual(shop_of(page(shop)), shop)

    def test_all_that_it_had(self):
        for seed in range(8):
            shop = Shop()
            for deed in deeds_by_chance(seed, 90):
                try:
                    shop.do(deed)
                except REFUSALS:
                    pass
            self.assertEqual(things_of(shop_of(page(shop))), things_of(shop))
            self.assertTrue(shop_of(page(shop)) == shop)

    def test_it_goes_on_from_there(self):
        shop = shop_of(SOME)
        shop.do(("step", "tom", "b"))
        shop.do(("drop", "two"))
        self.assertEqual(shop.undo(), ("drop", "two"))
        self.assertEqual(shop.ask("one")[:2], ("enough", 1))
        self.assertEqual(shop_of(SOME), some_shop())

    def test_bounds(self):
        names = ("a", "b", "c", "d", "e", "f", "g")
        six = "".join(f"machine {name} 1 ab 0 0\n" for name in names[:6])
        self.assertEqual(len(shop_of(six)), 6)
        self.assert_fault(six + "machine g 1 ab 0 0\n", 6)
        travellers = "".join(f"traveller {name} a 0 -\n" for name in names)
        self.assertEqual(len(shop_of(six + travellers[:-len("traveller g a 0 -\n")]).travellers()), 6)
        self.assert_fault(six + travellers, 12)
        arrows = sorted(itertools.islice(itertools.product(range(3), "ab", DEEDS, range(3)), 41))
        rows = ["arrow %s %s %s %s\n" % arrow for arrow in arrows]
        head = "machine m 3 ab 0 0\n"
        self.assertEqual(shop_of(head + "".join(rows[:40])).machine("m"), Machine(3, "ab", arrows[:40]))
        self.assert_fault(head + "".join(rows), 41)
        self.assertEqual(shop_of(six + "traveller t a 20 " + "ab" * 30 + "\n").traveller("t"), ("a", 20, "ab" * 30))
        self.assert_fault(six + "traveller t a 20 " + "ab" * 30 + "a\n", 6)


class Faults(PageCase):
    def test_no_page_at_all(self):
        for text in ("\n", "x", "machine", " \n", "page\n", "\n\n", SOME[:-1] + "\n\n"):
            self.assert_fault(text, slow_fault(text))
        self.assert_fault("\n", 0)
        self.assert_fault("x", 0)

    def test_behind_the_last_line_feed(self):
        self.assert_fault(SOME[:-1], 6)
        self.assert_fault(SOME + "x", 7)
        self.assert_fault(SOME + " ", 7)
        self.assert_fault(SOME + "traveller zoe one 2 a", 7)
        self.assert_fault(SOME.replace("cent", "dear") + "x", 1)
        self.assert_fault(SOME + "\n", 7)

    def test_each_fault_of_a_machine(self):
        head = "machine b 2 ab 0 0\n"
        for row in ("machine", "machine c", "machine c 2 ab 0", "machine c 2 ab 0 0 0", "machine  2 ab 0 0",
                    "machine c 2 ab 0 0 ", " machine c 2 ab 0 0", "machine  c 2 ab 0 0", "Machine c 2 ab 0 0",
                    "machine C 2 ab 0 0", "machine abcdefghi 2 ab 0 0", "machine c1 2 ab 0 0", "machine c 0 ab 0 0",
                    "machine c 9 ab 0 0", "machine c -1 ab 0 0", "machine c 02 ab 0 0", "machine c +2 ab 0 0",
                    "machine c two ab 0 0", "machine c  ab 0 0", "machine c 2 ba 0 0", "machine c 2 aa 0 0",
                    "machine c 2 abcd 0 0", "machine c 2  0 0", "machine c 2 A 0 0", "machine c 2 ab 2 0",
                    "machine c 2 ab 0 2", "machine c 2 ab 1,0 0", "machine c 2 ab 0 1,0", "machine c 2 ab 0,0 0",
                    "machine c 2 ab 0 1,1", "machine c 2 ab 0,  0", "machine c 2 ab 0, 0", "machine c 2 ab ,0 0",
                    "machine c 2 ab 0,,1 0", "machine c 2 ab -,0 0", "machine c 2 ab -- 0", "machine c 2 ab 00 0",
                    "machine c 2 ab 0,01 0", "machine c 2 ab -1 0", "machine c 2 ab 0 none", "machine c 2 ab  0",
                    "machine b 2 ab 0 0", "machine a 2 ab 0 0", "machine c 2 ab 0 0~",
                    "machine c " + "9" * 5000 + " ab 0 0", "machine c 2 ab " + "1" * 6000 + " 0"):
            self.assert_fault(head + row + "\n" + SOME, 1)
            self.assertEqual(slow_fault(head + row + "\n"), 1, row)
        for row in ("machine c 1 z - -", "machine c 8 abc 0,1,2,3,4,5,6,7 7", "machine cc 2 ab 0,1 0"):
            self.assertEqual(len(shop_of(head + row + "\n")), 2)

    def test_each_fault_of_an_arrow(self):
        head = "machine b 2 ab 0 0\narrow 0 b coin 0\n"
        for row in ("arrow", "arrow 1 a cent", "arrow 1 a cent 1 1", "arrow 1 a cent 1 ", " arrow 1 a cent 1",
                    "arrow  1 a cent 1", "Arrow 1 a cent 1", "arrow 2 a cent 1", "arrow 1 a cent 2", "arrow -1 a cent 1",
                    "arrow 01 a cent 1", "arrow 1 a cent 01", "arrow 1 a cent -0", "arrow 1 c cent 1", "arrow 1  cent 1",
                    "arrow 1 ab cent 1", "arrow 1 a dear 1", "arrow 1 a Cent 1", "arrow 1 a  1", "arrow one a cent 1",
                    "arrow 0 b coin 0", "arrow 0 a coin 0", "arrow 0 b cent 1", "arrow 0 b brim 1", "arrow 1 a cent",
                    "arrow 1 a cent " + "0" * 5000):
            self.assert_fault(head + row + "\n", 2)
            self.assertEqual(slow_fault(head + row + "\n"), 2, row)
        for row in ("arrow 0 b coin 1", "arrow 0 b fill 0", "arrow 1 a cent 1"):
            self.assertEqual(len(shop_of(head + row + "\n").machine("b")), 2)
        self.assert_fault("arrow 0 a cent 0\n", 0)
        self.assert_fault(head + "traveller t b 0 -\narrow 1 a cent 0\n", 3)

    def test_arrows_of_another_machine_begin_anew(self):
        text = "machine a 1 z 0 0\narrow 0 z keep 0\nmachine b 1 z 0 0\narrow 0 z cent 0\n"
        self.assertEqual(page(shop_of(text)), text)

    def test_each_fault_of_a_traveller(self):
        head = "machine b 2 ab 0 0\ntraveller m b 3 ab\n"
        for row in ("traveller", "traveller n b 3", "traveller n b 3 ab a", "traveller n b 3 ", "traveller n b 3",
                    "traveller n b 3 ab ", "traveller  n b 3 ab", "Traveller n b 3 ab", "traveller N b 3 ab",
                    "traveller abcdefghi b 3 ab", "traveller n c 3 ab", "traveller n  3 ab", "traveller n m 3 ab",
                    "traveller n b 21 ab", "traveller n b -1 ab", "traveller n b 03 ab", "traveller n b three ab",
                    "traveller n b  ab", "traveller n b 3 abc", "traveller n b 3 --", "traveller n b 3 -a",
                    "traveller n b 3 A", "traveller n b 3 none", "traveller m b 3 ab", "traveller l b 3 ab",
                    "traveller n b 3 " + "a" * 61, "traveller n b " + "1" * 5000 + " a", "machine c 1 a 0 0",
                    "arrow 0 a cent 0"):
            self.assert_fault(head + row + "\n", 2)
            self.assertEqual(slow_fault(head + row + "\n"), 2, row)
        for row in ("traveller n b 0 -", "traveller n b 20 " + "a" * 60, "traveller mm b 3 a"):
            self.assertEqual(len(shop_of(head + row + "\n").travellers()), 2)

    def test_rows_out_of_order_and_twice(self):
        rows = SOME.splitlines(keepends=True)
        texts = ["".join(order) for order in itertools.permutations(rows[:4])]
        texts += ["".join(rows[:at] + [rows[at]] + rows[at:]) for at in range(len(rows))]
        texts += ["".join(rows[:at] + rows[at + 1:]) for at in range(len(rows))]
        texts += ["".join(rows[:at] + [rows[other]] + rows[at:]) for at in range(8) for other in range(7)]
        faults = 0
        for text in texts:
            row = slow_fault(text)
            if row is None:
                self.assertEqual(page(shop_of(text)), text)
            else:
                faults += 1
                self.assert_fault(text, row)
        self.assertGreater(faults, 50)

    def test_bent_anywhere(self):
        chance = random.Random(25)
        pages = [SOME] + list(some_pages())[3:6]
        count = {True: 0, False: 0}
        for text in pages:
            for at in range(len(text)):
                for sign in ["", *chance.sample(["a", "b", "0", "1", "9", " ", "\n", "-", ",", "Z", "~", "  ", "ab"], 4)]:
                    bent = text[:at] + sign + text[at + chance.randrange(2):]
                    row = slow_fault(bent)
                    count[row is None] += 1
                    if row is None:
                        self.assertEqual(page(shop_of(bent)), bent)
                    else:
                        self.assert_fault(bent, row)
        self.assertGreater(min(count.values()), 100)


if __name__ == "__main__":
    unittest.main()
