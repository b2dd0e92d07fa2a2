"""Point [2] over the whole program: calls by names, what is handed in, and every refusal of the interface."""

import copy
import inspect
import itertools
import unittest

from onepurse import (boards, closing, counting, desk, errors, goings, machines, makers, marks, pages, prices, shop,
                      tables, tongue, verdicts, words)
from onepurse.machines import Machine
from tests.samples import all_of, loop, small, wide
from tests.test_shop import all_of_shop, full_shop, some_shop

TREE = ("row", ("many", ("letter", "a", "cent")), ("maybe", ("letter", "b", "fill")))
ARROW = (2, "b", "brim", 2)
TABLE = (("keep", "cent"), ("shut", "coin"))
ROWS = [((0, 0, 0), (1, 0, 0)), ((0, 0, 0), (1, 2, 2))]
PAGE = "machine one 2 ab 0 0\narrow 0 a cent 1\ntraveller tom one 2 a\n"


def on_a_new_shop(name):
    """A method, called each time on another shop."""
    def ask(*things, **named):
        return getattr(some_shop(), name)(*things, **named)

    ask.__signature__ = inspect.signature(getattr(some_shop(), name))
    return ask


def calls():
    """Each function and class of the interface, with good arguments by their names, those behind `*` too."""
    machine, keep = small(), loop("keep", "ab")
    told = verdicts.verdict(loop("fill"))
    yield marks.spend, {"purses": (1, 2), "deed": "coin"}
    yield marks.peak, {"deeds": ["cent", "coin"]}
    yield marks.mark_of, {"deeds": ["cent", "coin"]}
    yield marks.behind, {"one": "fill", "other": "cent"}
    yield marks.best, {"marks": ["dear", "cent"]}
    yield marks.again, {"mark": "cent"}
    yield Machine, {"rooms": 2, "letters": "ab", "arrows": [(0, "a", "cent", 1)], "firsts": [1, 0], "lasts": [1]}
    yield machine.rooms, {}
    yield machine.letters, {}
    yield machine.arrows, {}
    yield machine.firsts, {}
    yield machine.lasts, {}
    yield machine.steps, {"room": 1, "letter": "b"}
    yield machine.with_arrow, {"arrow": ARROW}
    yield machine.without_arrow, {"arrow": (2, "a", "brim", 2)}
    yield machine.turned_first, {"room": 2}
    yield machine.turned_last, {"room": 1}
    yield machine.lets, {"word": "aab"}
    yield machine.need_word, {"word": "aab"}
    yield words.is_pattern, {"text": "a(b)", "letters": "ab"}
    yield words.length_of, {"pattern": "a(b)", "goings": 7}
    yield words.unrolled, {"pattern": "a(b)", "goings": 7}
    yield boards.least_ones, {"triples": [(1, 2, 3), [0, 1, 1], (1, 2, 4)]}
    yield boards.first_board, {"machine": machine}
    yield boards.next_board, {"machine": machine, "board": ((0, 1, 1), (1, 0, 2)), "letter": "b", "size": 2}
    yield boards.board_of, {"machine": machine, "word": "ab", "size": 2}
    yield boards.ends_well, {"machine": machine, "board": ((2, 1, 1),)}
    yield prices.price, {"machine": machine, "word": "ab"}
    yield prices.way, {"machine": machine, "word": "ab"}
    yield prices.way_price, {"machine": machine, "word": "a", "arrows": [(0, "a", "coin", 2)]}
    yield prices.shut_rows, {"machine": machine, "word": "b", "size": 0}
    yield prices.shut_holds, {"machine": machine, "word": "b", "rows": ROWS, "size": 0}
    yield tables.letter_table, {"machine": machine, "letter": "b"}
    yield tables.still_table, {"rooms": 3}
    yield tables.times, {"one": TABLE, "other": (("fill", "dear"), ("cent", "keep"))}
    yield tables.is_steady, {"table": TABLE}
    yield tables.raised, {"table": TABLE}
    yield tables.read_off, {"machine": Machine(2, "a", lasts=[1]), "table": TABLE}
    yield tables.pattern_table, {"machine": keep, "pattern": "(a)"}
    yield closing.closing, {"machine": keep, "most": 9}
    yield closing.dear_pattern, {"machine": loop("cent"), "most": 9}
    yield verdicts.first_dear, {"machine": loop("cent"), "size": 3, "most": 9}
    yield verdicts.is_enough, {"machine": loop("fill"), "size": 3, "most": 9}
    yield verdicts.verdict, {"machine": loop("fill"), "most": 9}
    yield verdicts.verdict_holds, {"machine": loop("fill"), "told": told}
    yield goings.price_often, {"machine": loop("coin"), "pattern": "(a)", "goings": 9}
    yield goings.how_often, {"machine": loop("coin"), "pattern": "(a)", "number": 5, "most": 9}
    yield makers.turned, {"machine": machine}
    yield makers.beside, {"one": machine, "other": keep}
    yield makers.within, {"machine": machine, "sieve": keep}
    yield makers.bare, {"machine": machine}
    yield makers.trimmed, {"machine": machine}
    yield makers.cheap, {"machine": keep, "size": 3}
    yield makers.pieces, {"machine": machine}
    yield tongue.read_tolls, {"text": "a!*b"}
    yield tongue.tolls_text, {"tree": TREE}
    yield tongue.machine_of, {"tree": TREE, "letters": "abc"}
    yield tongue.readings, {"tree": TREE, "word": "aab"}
    yield counting.counts, {"machine": machine, "length": 4}
    yield counting.dearest, {"machine": machine, "length": 4}
    yield shop.Shop, {}
    for name, things in (("do", {"deed": ("drop", "two")}), ("undo", {}), ("deeds", {}), ("undone", {}), ("machines", {}),
                         ("travellers", {}), ("machine", {"name": "one"}), ("traveller", {"name": "tom"}),
                         ("board", {"name": "tom"}), ("ask", {"name": "one"}), ("searched", {}), ("twin", {})):
        yield on_a_new_shop(name), things
    yield pages.page, {"shop": some_shop()}
    yield pages.shop_of, {"text": PAGE}
    yield desk.Desk, {"shop": some_shop()}
    yield desk.Desk(some_shop()).say, {"line": "board tom"}
    yield desk.Desk(some_shop()).shop, {}


def shown(thing):
    """What can be compared of anything that is told or handed in."""
    if isinstance(thing, Machine):
        return all_of(thing)
    if isinstance(thing, shop.Shop):
        return all_of_shop(thing)
    if isinstance(thing, desk.Desk):
        return all_of_shop(thing.shop())
    if isinstance(thing, dict):
        return {name: shown(each) for name, each in thing.items()}
    return copy.deepcopy(thing)


class ByNames(unittest.TestCase):
    def test_by_names_in_any_order_and_by_place(self):
        for ask, things in calls():
            before = shown(things)
            told = shown(ask(**things))
            for order in itertools.permutations(things.items()):
                self.assertEqual(shown(ask(**dict(order))), told, ask)
            kinds = inspect.signature(ask).parameters
            if all(name in kinds for name in things):
                by_place = [things[name] for name, each in kinds.items() if each.kind == each.POSITIONAL_OR_KEYWORD]
                by_name = {name: things[name] for name, each in kinds.items() if each.kind == each.KEYWORD_ONLY}
                self.assertEqual(len(by_place) + len(by_name), len(things), ask)
                self.assertEqual(shown(ask(*by_place, **by_name)), told, ask)
                for count in range(len(by_place)):
                    rest = {name: things[name] for name in list(kinds)[count:]}
                    self.assertEqual(shown(ask(*by_place[:count], **rest)), told, ask)
                if by_name:
                    with self.assertRaises(TypeError, msg=ask):
                        ask(*by_place, *by_name.values())
            self.assertEqual(shown(things), before, ask)

    def test_defaults_left_out(self):
        self.assertEqual(all_of(Machine(2, "a")), all_of(Machine(2, "a", (), firsts=(0,), lasts=(0,))))
        self.assertEqual(all_of(Machine(letters="a", rooms=2)), (2, "a", [], [0], [0]))
        self.assertEqual(closing.closing(loop("cent")), closing.closing(loop("cent"), most=400))
        self.assertEqual(closing.dear_pattern(loop("cent")), closing.dear_pattern(loop("cent"), most=400))
        self.assertEqual(verdicts.first_dear(loop("cent"), 3), verdicts.first_dear(loop("cent"), 3, most=1000))
        self.assertEqual(verdicts.is_enough(loop("cent"), 3), verdicts.is_enough(loop("cent"), 3, most=1000))
        self.assertEqual(verdicts.verdict(loop("keep")), verdicts.verdict(loop("keep"), most=1000))
        self.assertEqual(goings.how_often(loop("cent"), "(a)", 3), goings.how_often(loop("cent"), "(a)", 3, most=400))
        self.assertEqual(desk.Desk().shop(), shop.Shop())

    def test_a_size_behind_the_star_has_no_default(self):
        for ask, things in ((boards.next_board, (small(), (), "a")), (boards.board_of, (small(), "a")),
                            (prices.shut_rows, (small(), "a")), (prices.shut_holds, (small(), "a", ROWS))):
            with self.assertRaises(TypeError):
                ask(*things)


class HandedIn(unittest.TestCase):
    def test_told_lists_are_new_ones(self):
        for ask, things in calls():
            told = ask(**things)
            if isinstance(told, list):
                before = copy.deepcopy(told)
                told.append("more")
                told.reverse()
                self.assertEqual(ask(**things), before, ask)

    def test_a_later_change_changes_nothing(self):
        arrows, firsts, lasts = [(0, "a", "cent", 1)], [0], [1]
        machine = Machine(2, "ab", arrows, firsts=firsts, lasts=lasts)
        before = all_of(machine)
        arrows.append((1, "b", "fill", 0))
        firsts.clear()
        lasts.append(0)
        self.assertEqual(all_of(machine), before)
        triples = [[0, 1, 2], [1, 0, 0]]
        board = boards.least_ones(triples)
        triples[0][1] = 9
        self.assertEqual(board, ((0, 1, 2), (1, 0, 0)))
        kept = some_shop()
        one = desk.Desk(kept)
        kept.do(("drop", "two"))
        self.assertEqual(one.say("machines"), "one other two")

    def test_lists_and_tuples_are_alike(self):
        machine = small()
        for kind in (list, tuple):
            self.assertEqual(marks.spend(kind((1, 2)), "cent"), (2, 2))
            self.assertEqual(marks.peak(kind(("cent", "cent"))), 2)
            self.assertEqual(marks.best(kind(("dear", "cent"))), "cent")
            self.assertEqual(all_of(Machine(2, "a", kind([(0, "a", "cent", 1)]), firsts=kind([1]), lasts=kind([0, 1]))),
                             (2, "a", [(0, "a", "cent", 1)], [1], [0, 1]))
            rows = kind([kind([kind(triple) for triple in row]) for row in ROWS])
            self.assertEqual(prices.shut_holds(machine, "b", rows, size=0),
                             prices.shut_holds(machine, "b", ROWS, size=0))
            self.assertEqual(prices.way_price(machine, "a", kind([(0, "a", "coin", 2)])), 1)
            self.assertEqual(boards.least_ones(kind([kind((0, 1, 2)), (0, 2, 2)])), ((0, 1, 2),))
            self.assertEqual(tables.times(kind([kind(row) for row in TABLE]), TABLE), tables.times(TABLE, TABLE))


def refusals():
    """For each class of refusal at least one call that ends in it, with what its own field has."""
    busy = full_shop()
    yield "BadMark", lambda: marks.again("coins"), {}
    yield "BadMark", lambda: marks.spend((0, 0), "dear"), {}
    yield "BadLetters", lambda: Machine(1, "ba"), {}
    yield "BadLetters", lambda: tongue.machine_of(TREE, "a"), {}
    yield "BadLetters", lambda: small().steps(0, "c"), {}
    yield "BadRoom", lambda: Machine(1, "a", firsts=[1]), {}
    yield "BadRoom", lambda: busy.do(("last", "a", -1)), {}
    yield "BadArrow", lambda: Machine(1, "a", [(0, "a", "cent", 1)]), {}
    yield "BadArrow", lambda: busy.do(("strike", "a", 0, "c", "cent", 0)), {}
    yield "BadWord", lambda: prices.price(small(), "c"), {}
    yield "BadWord", lambda: tongue.readings(TREE, "aaaaaaa"), {}
    yield "BadSize", lambda: counting.counts(small(), 21), {}
    yield "BadSize", lambda: verdicts.verdict(small(), most=0), {}
    yield "BadSize", lambda: makers.cheap(small(), 13), {}
    yield "BadPattern", lambda: goings.price_often(small(), "()", 1), {}
    yield "BadPattern", lambda: words.unrolled("(", 1), {}
    yield "BadTable", lambda: tables.raised((("shut", "keep"), ("keep", "shut"))), {}
    yield "BadTree", lambda: tongue.tolls_text(("many",)), {}
    yield "BadText", lambda: tongue.read_tolls("ab)"), {"at": 2}
    yield "BadText", lambda: some_shop().do(("tolls", "x", "a|", "a")), {"at": 2}
    yield "BadName", lambda: busy.do(("machine", "A", 1, "a")), {}
    yield "BadDeed", lambda: busy.do(()), {}
    yield "BadPage", lambda: pages.shop_of("machine a 1 a 0 0\nx\n"), {"row": 1}
    yield "Taken", lambda: small().with_arrow((0, "b", "cent", 0)), {}
    yield "Taken", lambda: busy.do(("go", "a", "a", 1)), {}
    yield "Full", lambda: makers.pieces(Machine(8, "a")), {}
    yield "Full", lambda: busy.do(("machine", "x", 1, "a")), {}
    yield "Unlike", lambda: makers.beside(loop("cent"), small()), {}
    yield "Unlike", lambda: tables.read_off(small(), TABLE), {}
    yield "NotDear", lambda: goings.how_often(loop("fill"), "(a)", 1), {}
    yield "InUse", lambda: busy.do(("drop", "a")), {}
    yield "TooWide", lambda: words.unrolled("(" * 3 + "a" + ")" * 3, 400), {"most": 2000}
    yield "TooWide", lambda: closing.closing(wide()), {"most": 400}
    yield "TooWide", lambda: verdicts.first_dear(loop("cent"), 9, most=4), {"most": 4}
    yield "TooWide", lambda: goings.price_often(loop("cent"), "(a)", 61), {"most": 60}
    yield "TooWide", lambda: goings.how_often(loop("cent"), "(a)", 9, most=7), {"most": 7}
    yield "NoArrow", lambda: small().without_arrow((0, "b", "brim", 0)), {}
    yield "NoName", lambda: busy.machine("gone"), {}
    yield "NoName", lambda: busy.ask("gone"), {}
    yield "NoTraveller", lambda: busy.board("gone"), {}
    yield "NoTraveller", lambda: busy.do(("leave", "gone")), {}
    yield "NothingLeft", lambda: shop.Shop().undo(), {}
    yield "NothingLeft", lambda: busy.do(("back", "a")), {}


class Refusals(unittest.TestCase):
    def test_each_is_of_just_its_class_with_its_word_and_fields(self):
        seen = set()
        for name, ask, fields in refusals():
            with self.assertRaises(getattr(errors, name), msg=name) as caught:
                ask()
            self.assertIs(type(caught.exception), getattr(errors, name))
            self.assertEqual(vars(caught.exception), {"word": name.lower(), **fields})
            above = errors.Missing if name in ("NoArrow", "NoName", "NoTraveller") else errors.PurseError
            self.assertIs(isinstance(caught.exception, above), name != "NothingLeft")
            seen.add(name)
        every = {name for name, thing in vars(errors).items() if inspect.isclass(thing)}
        self.assertEqual(seen, every - {"PurseError", "Missing"})


class Constants(unittest.TestCase):
    def test_told_ones(self):
        self.assertEqual(marks.DEEDS, ("keep", "cent", "fill", "coin", "brim"))
        self.assertEqual(marks.MARKS, ("brim", "fill", "keep", "cent", "coin", "dear", "shut"))
        self.assertEqual((machines.MOST_ROOMS, machines.MOST_LETTERS, machines.MOST_ARROWS, machines.MOST_WORD),
                         (8, 3, 40, 60))
        self.assertEqual((words.MOST_DEPTH, closing.MOST_TABLES), (60, 400))
        self.assertEqual((verdicts.MOST_SIZE, verdicts.MOST_PAIRS, goings.MOST_GOINGS), (12, 1000, 400))


if __name__ == "__main__":
    unittest.main()
