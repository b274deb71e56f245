import itertools
import random
import unittest

from handkept.errors import (
    BadEdits, BadNumber, BadOrder, BadPrograms, BadRule, BadText, BadWay, KeptError, NothingToRedo, NotMade)
from handkept.journals import read_journal
from handkept.keeper import Keeper
from handkept.programs import Program

from tests.histories import History, drawn_model, drawn_programs, lead
from tests.questions import TOWN
from tests.samples import ODD_VALUES, TOWNS, nested

DRAWN = 150
WHOLE, SKIPPED = ("first", (), ""), ("first", (1,), "")
ROME = (("town", "rome"),)
SHOP = ROME + (("shop", "a"),)
MODEL = (("town", ("rome",), (("shop", ("a", "bo"), ()),)), ("town", ("pisa",), ()))
RICH = Program(
    "kind town\nkind shop in town\n  field owner\npass\n  cell c 2\n  begin\n    line top top\n  open town\n"
    "    if c = 0\n      head h - first\n      set c 1\n    else\n      if town.key is rome\n        line r town.key\n"
    "  open shop\n    line s shop.key shop.owner\npass\n  close town\n    line t town.key\n  end\n    line e end")


def text(*lines):
    return "\n".join(lines)


def below(blanks, own):
    return [" " * blanks + line for line in own.split("\n")]


HEAD = ["program", *below(2, TOWNS), "model"]
ROWS = ["  town rome", "    shop a bo", "  town pisa"]
AHEAD = [*HEAD, *ROWS, "orders"]
MANY = len(AHEAD)


def shown(*orders):
    """The lines of these orders in a journal of TOWN and MODEL."""
    keeper = Keeper(TOWN, MODEL)
    for order in orders:
        keeper.do(order)
    lines = keeper.journal.split("\n")
    assert lines[:MANY] == AHEAD
    return lines[MANY:]


def told(keeper):
    return (keeper.program, keeper.model, keeper.text, keeper.edits, keeper.edited, keeper.orders, keeper.journal,
            keeper.wrongs())


class Journals(unittest.TestCase):
    def test_before_any_order(self):
        self.assertEqual(Keeper(TOWN, MODEL).journal, text(*AHEAD))
        self.assertEqual(Keeper(TOWN).journal, text("program", *below(2, TOWNS), "model", "orders"))
        self.assertEqual(Keeper(RICH).journal, text("program", *below(2, RICH.text), "model", "orders"))

    def test_each_sort_of_order(self):
        shop = ("shop", ("b", "cy"), ())
        town = ("town", ("bari",), (("shop", ("a", "b"), ()), ("shop", ("c", "d"), ())))
        way = ("t", ROME)
        for orders, lines in (
                ([("come", (), 0, ("town", ("bari",), ()))], ["  come - 0", "    town bari"]),
                ([("come", ROME, 1, shop)], ["  come town:rome 1", "    shop b cy"]),
                ([("come", (), 2, town)], ["  come - 2", "    town bari", "      shop a b", "      shop c d"]),
                ([("go", ROME)], ["  go town:rome"]),
                ([("go", SHOP)], ["  go town:rome/shop:a"]),
                ([("turn", SHOP, "owner", "eve")], ["  turn town:rome/shop:a owner eve"]),
                ([("exchange", RICH)], ["  exchange", *below(4, RICH.text)]),
                ([("edit", way, WHOLE, ("ahead", ("x", "y", "z", "u", "v", "w")))], ["  edit t town:rome first - - ahead x y z u v w"]),
                ([("edit", way, ("only", (1, 2, 5), "in"), ("behind", ("x",)))], ["  edit t town:rome only 1,2,5 in behind x"]),
                ([("edit", ("s", SHOP), SKIPPED, ("instead", ("x", "y")))], ["  edit s town:rome/shop:a first 1 - instead x y"]),
                ([("edit", way, ("first", (1, 3), ""), ("strike",))], ["  edit t town:rome first 1,3 - strike"]),
                ([("edit", way, WHOLE, ("strike",)), ("drop", 0)], ["  edit t town:rome first - - strike", "  drop 0"]),
                ([("write",), ("write",)], ["  write", "  write"])):
            self.assertEqual(shown(*orders), lines)
            self.assertEqual(read_journal(text(*AHEAD, *lines)).orders, tuple(orders))

    def test_a_way_without_a_path(self):
        keeper = Keeper(RICH, MODEL)
        keeper.edit(("h", ()), WHOLE, ("strike",))
        self.assertEqual(keeper.journal.split("\n")[-1], "  edit h - first - - strike")
        self.assertEqual(read_journal(keeper.journal), keeper)

    def test_drops_of_more_digits(self):
        keeper = Keeper(TOWN, MODEL)
        for _ in range(112):
            keeper.edit(("t", ROME), WHOLE, ("strike",))
        keeper.drop(10)
        keeper.drop(111)
        self.assertEqual(keeper.journal.split("\n")[-2:], ["  drop 10", "  drop 111"])
        self.assertEqual(told(read_journal(keeper.journal)), told(keeper))

    def test_what_was_taken_back_stands_in_none(self):
        keeper = Keeper(TOWN, MODEL)
        keeper.go(ROME)
        keeper.write()
        keeper.undo()
        self.assertEqual(keeper.journal, text(*AHEAD, "  go town:rome"))
        twin = read_journal(keeper.journal)
        self.assertEqual(twin, keeper)
        with self.assertRaises(NothingToRedo):
            twin.redo()
        keeper.undo()
        self.assertEqual(keeper.journal, text(*AHEAD))
        keeper.redo()
        self.assertEqual(keeper.journal, text(*AHEAD, "  go town:rome"))
        with keeper.trial():
            keeper.write()
            self.assertEqual(keeper.journal, text(*AHEAD, "  go town:rome", "  write"))
        self.assertEqual(keeper.journal, text(*AHEAD, "  go town:rome"))

    def test_the_program_at_first_stands_there(self):
        keeper = Keeper(RICH, MODEL)
        keeper.exchange(TOWN)
        keeper.go(ROME)
        keeper.write()
        lines = ["program", *below(2, RICH.text), "model", *ROWS, "orders", "  exchange", *below(4, TOWNS), "  go town:rome", "  write"]
        self.assertEqual(keeper.journal, text(*lines))
        self.assertEqual(told(read_journal(keeper.journal)), told(keeper))

    def test_what_is_shown_is_read_back(self):
        sorts = set()
        for number in range(DRAWN):
            drawing, *programs = drawn_programs(number)
            keeper = Keeper(programs[0], drawn_model(drawing, programs[0]))
            lead(History(drawing, keeper), programs, 20)
            twin = read_journal(keeper.journal)
            self.assertIsInstance(twin, Keeper)
            self.assertEqual(twin, keeper)
            self.assertEqual(told(twin), told(keeper))
            with self.assertRaises(NothingToRedo):
                twin.redo()
            sorts |= {order[0] for order in keeper.orders}
        self.assertEqual(sorts, {"come", "go", "turn", "exchange", "edit", "drop", "write"})

    def test_by_name(self):
        own = text(*AHEAD, "  write")
        self.assertEqual(read_journal(text=own), read_journal(own))


class BadTexts(unittest.TestCase):
    def refused(self, line, *lines):
        with self.assertRaises(BadText) as caught:
            read_journal(text(*lines))
        self.assertEqual(caught.exception.line, line, lines)

    def test_values_of_any_kind(self):
        for value in [*ODD_VALUES, *nested(30), [text(*AHEAD)], Keeper(TOWN, MODEL), TOWN]:
            with self.assertRaises(BadText) as caught:
                read_journal(value)
            self.assertEqual(caught.exception.line, 0)

    def test_lines_that_are_missing_at_the_end(self):
        self.refused(1, "")
        for many in range(1, MANY):
            self.refused(many + 1, *AHEAD[:many])
        self.refused(2, "program")
        self.refused(3, "program", "  kind a")
        self.refused(4, "program", "  kind a", "  pass")
        self.refused(5, "program", "  kind a", "  pass", "model")
        self.refused(7, "program", "  kind a", "  pass", "model", "  a k", "  a m")
        self.refused(MANY, *AHEAD[:-1])
        self.refused(MANY + 2, *AHEAD, "  come - 0")
        self.refused(MANY + 2, *AHEAD, "  exchange")
        self.refused(MANY + 4, *AHEAD, "  exchange", "    kind a", "      field x")
        self.refused(MANY + 5, *AHEAD, "  exchange", "    kind a", "    pass", "      begin")

    def test_lines_that_are_missing_amid(self):
        self.refused(2, "program", *AHEAD[9:])
        self.refused(7, *AHEAD[:6], *AHEAD[7:])
        self.refused(9, *AHEAD[:8], *AHEAD[9:])
        self.refused(10, *AHEAD[:9], *AHEAD[10:])
        self.refused(11, *AHEAD[:10], "    shop a bo", "  town pisa", "orders")
        self.refused(MANY + 2, *AHEAD, "  come - 0", "  write")
        self.refused(MANY + 2, *AHEAD, "  exchange", "  write")
        self.refused(MANY + 3, *AHEAD, "  exchange", "    kind town", "  write")

    def test_headings(self):
        for at in (0, 9, MANY - 1):
            for line in ("", " " + AHEAD[at], "  " + AHEAD[at], AHEAD[at] + " ", AHEAD[at] + " x", AHEAD[at].title(), "x", "\t" + AHEAD[at],
                         AHEAD[at] + "\t", AHEAD[at] + ":", "write"):
                self.refused(at + 1, *AHEAD[:at], line, *AHEAD[at + 1:])

    def test_headings_in_another_sequence(self):
        self.refused(1, "model", *AHEAD[1:])
        self.refused(10, *AHEAD[:9], "orders", *AHEAD[9:])
        self.refused(10, *AHEAD[:9], "program", *AHEAD[9:])
        self.refused(MANY + 1, *AHEAD, "orders")
        self.refused(MANY + 1, *AHEAD, "model")
        self.refused(MANY, *AHEAD[:-1], "model", "orders")

    def test_programs_by_the_line_of_the_journal(self):
        for at, line in ((1, "  kind"), (1, "  pass"), (2, "  kind shop in"), (3, "    field key"), (3, "  field owner"), (3, "   field owner"),
                         (4, "  passes"), (5, "    open village"), (6, "      line t shop.key"), (6, "      line t town.key "),
                         (6, "      line t  town.key"), (7, "    open town"), (8, "      line t shop.key"), (8, "      line s shop.Key"),
                         (8, "    "), (8, "  ")):
            self.assertNotEqual(AHEAD[at], line)
            self.refused(at + 1, *AHEAD[:at], line, *AHEAD[at + 1:])
        self.refused(10, *AHEAD[:9], "  x", *AHEAD[9:])
        self.refused(10, *AHEAD[:9], "", *AHEAD[9:])

    def test_models_by_the_line_of_the_journal(self):
        for at, line in ((0, "  village rome"), (0, "  town"), (0, "  town rome bo"), (0, "    town rome"), (1, "  shop a bo"),
                         (1, "    shop a"), (1, "    shop a  bo"), (1, "     shop a bo"), (1, "      shop a bo"), (2, "  town rome"),
                         (2, "  town Pisa"), (2, "   town pisa"), (2, "  town pisa "), (2, "  "), (2, ""), (2, "  -")):
            rows = [*ROWS[:at], line, *ROWS[at + 1:]]
            self.refused(len(HEAD) + at + 1, *HEAD, *rows, "orders")

    def test_orders(self):
        for line in (
                "", "  ", "write", " write", "   write", "    write", "  Write", "  write ", "  write -", "  write  ", "\twrite", "  write\t",
                "  undo", "  redo", "  text", "  copy", "  missing", "  -", "  program",
                "  go", "  go ", "  go town", "  go town:", "  go :rome", "  go town:rome/", "  go /town:rome", "  go town:rome/shop",
                "  go town:rome//shop:a", "  go town:rome:x", "  go town: rome", "  go town:Rome", "  go town:abcdefghi", "  go town:rome -",
                "  go  town:rome", "  go town:rome ", "  go --", "  go ()", "  go town:-", "  go -/town:rome",
                "  turn", "  turn town:rome owner", "  turn town:rome owner eve eve", "  turn town:rome owner Eve", "  turn town:rome - eve",
                "  turn town:rome owner -", "  turn  town:rome owner eve", "  turn town owner eve", "  turn town:rome owner 1",
                "  drop", "  drop -", "  drop -1", "  drop +1", "  drop 01", "  drop 00", "  drop 1000", "  drop 0999", "  drop 1 2", "  drop one",
                "  drop 1.0", "  drop 0x1", "  drop 1_0", "  drop  1", "  drop 1 ",
                "  edit", "  edit t", "  edit t town:rome", "  edit t town:rome first - -", "  edit t town:rome - - strike",
                "  edit t town:rome last - - strike", "  edit t town:rome First - - strike", "  edit T town:rome first - - strike",
                "  edit - town:rome first - - strike", "  edit t town first - - strike", "  edit t town:rome first 1, - strike",
                "  edit t town:rome first ,1 - strike", "  edit t town:rome first 1,,2 - strike", "  edit t town:rome first 01 - strike",
                "  edit t town:rome first 1000 - strike", "  edit t town:rome first x - strike", "  edit t town:rome first 1, 2 - strike",
                "  edit t town:rome first -,1 - strike", "  edit t town:rome first -1 - strike", "  edit t town:rome first - In strike",
                "  edit t town:rome first - in at strike", "  edit t town:rome first - 1 strike", "  edit t town:rome first - - strike x",
                "  edit t town:rome first - - strike -", "  edit t town:rome first - - ahead", "  edit t town:rome first - - ahead ",
                "  edit t town:rome first - - ahead X", "  edit t town:rome first - - ahead x  y", "  edit t town:rome first - - ahead x ",
                "  edit t town:rome first - - ahead -", "  edit t town:rome first - - behind", "  edit t town:rome first - - instead",
                "  edit t town:rome first - - Strike", "  edit t town:rome first - - away x", "  edit t town:rome first - - x",
                "  edit  t town:rome first - - strike", "  edit t town:rome first - - ahead x1",
                "  write t town:rome first - - strike", "  go t town:rome first - - strike", "  turn t town:rome first - - strike",
                "  drop t town:rome first - - strike", "  exchange t town:rome first - - strike",
                "  exchange -", "  exchange ", "  come", "  come -", "  come - 0 0", "  come 0 -", "  come town 0", "  come - -", "  come - 01",
                "  come - 1000", "  come - 0 ", "  come  - 0", "  come - -1", "  come - x", "  Come - 0"):
            self.refused(MANY + 1, *AHEAD, line)
            self.refused(MANY + 2, *AHEAD, "  write", line, "  write")

    def test_what_stands_below_an_order(self):
        for line in ("  write", "  go town:rome", "  turn town:rome/shop:a owner x", "  drop 0", "  edit t town:rome first - - strike"):
            self.refused(MANY + 2, *AHEAD, line, "    write")
            self.refused(MANY + 2, *AHEAD, line, "    town rome")
            self.refused(MANY + 2, *AHEAD, line, "")

    def test_records_that_come(self):
        for path, own, at in (
                ("-", ["    shop a bo"], 1), ("-", ["    town"], 1), ("-", ["    town x y"], 1), ("-", ["    village x"], 1),
                ("-", ["  town x"], 1), ("-", ["   town x"], 1), ("-", ["      town x"], 1), ("-", ["    town x "], 1), ("-", ["    Town x"], 1),
                ("-", ["    town x", "    town y"], 2), ("-", ["    town x", "     shop a b"], 2), ("-", ["    town x", "      shop a"], 2),
                ("-", ["    town x", "      shop a b", "      shop a c"], 3), ("-", ["    town x", "      shop a b", "        shop c b"], 3),
                ("-", ["    town x", "      town y"], 2), ("-", ["    town x", "      shop a b", ""], 3), ("-", ["    "], 1), ("-", [""], 1),
                ("town:rome", ["    town x"], 1), ("town:rome", ["    shop x"], 1), ("town:rome", ["    shop x y", "    shop y z"], 2),
                ("shop:a", ["    town x"], 1), ("shop:a", ["    shop a b"], 1), ("town:rome/shop:a", ["    shop a b"], 1),
                ("village:x", ["    town x"], 1), ("village:x", ["    shop a b"], 1), ("town:rome/village:x", ["    shop a b"], 1)):
            self.refused(MANY + 1 + at, *AHEAD, f"  come {path} 0", *own)
            self.refused(MANY + 1 + at, *AHEAD, f"  come {path} 0", *own, "  write")

    def test_the_last_pair_of_a_path_tells_which_kinds_may_stand_there(self):
        for path in ("town:bari", "shop:a/town:rome", "village:x/town:rome", "town:rome/shop:a/town:pisa"):
            with self.assertRaises(BadOrder):
                read_journal(text(*AHEAD, f"  come {path} 0", "    shop x y"))

    def test_kinds_of_records_are_those_of_the_first_program(self):
        other = ["  exchange", "    kind village", "    pass"]
        self.refused(MANY + 5, *AHEAD, *other, "  come - 0", "    village x")
        with self.assertRaises(BadPrograms):
            read_journal(text(*AHEAD, *other, "  come - 0", "    town x"))

    def test_programs_of_orders(self):
        for at, line in ((0, "    kind"), (1, "      kind shop in town"), (2, "    field owner"), (4, "      close village"), (7, "        line t shop.key"),
                         (7, "    "), (7, "        line s town.key ")):
            own = below(4, TOWNS)
            self.refused(MANY + 2 + at, *AHEAD, "  exchange", *own[:at], line, *own[at + 1:], "  write")
        self.refused(MANY + 10, *AHEAD, "  exchange", *below(4, TOWNS), "      write")
        self.refused(MANY + 10, *AHEAD, "  exchange", *below(4, TOWNS), "    write")

    def test_the_text_is_read_ahead_of_the_first_order(self):
        for order in ("  go town:bari", "  drop 7", "  edit x - first - - strike", "  turn - owner x"):
            self.refused(MANY + 3, *AHEAD, order, "  write", "  writes")

    def test_a_text_cut_at_any_line(self):
        keeper = Keeper(RICH, MODEL)
        keeper.come(ROME, 0, ("shop", ("c", "d"), ()))
        keeper.exchange(TOWN)
        keeper.come((), 0, ("town", ("bari",), (("shop", ("c", "d"), ()),)))
        keeper.write()
        lines = keeper.journal.split("\n")
        found = set()
        for many in range(len(lines) + 1):
            try:
                twin = read_journal(text(*lines[:many]))
            except BadText as wrong:
                self.assertEqual(wrong.line, many + 1)
                continue
            # The last one may be a part alone: of a program, or of a record with others in it.
            self.assertEqual(twin.orders[:-1], keeper.orders[:max(0, len(twin.orders) - 1)])
            found.add(len(twin.orders))
        self.assertEqual(found, {0, 1, 2, 3, 4})

    def line_told(self, lines):
        """The line that is told to be wrong, None if there is none."""
        try:
            read_journal(text(*lines))
        except BadText as wrong:
            return wrong.line
        except KeptError:
            pass
        return None

    def test_the_first_line_that_cannot_stand_there(self):
        # Texts that are hurt: with the line that is told, and what stands ahead of it, just this one is wrong.
        keeper = Keeper(RICH, MODEL)
        keeper.come(ROME, 0, ("shop", ("c", "d"), ()))
        keeper.exchange(TOWN)
        keeper.turn(SHOP, "owner", "x")
        keeper.edit(("s", SHOP), SKIPPED, ("instead", ("x", "y")))
        keeper.come((), 0, ("town", ("bari",), (("shop", ("c", "d"), ()),)))
        keeper.write()
        keeper.drop(0)
        own = keeper.journal
        chance = random.Random(7)
        found = set()
        for _ in range(DRAWN * 10):
            at = chance.randrange(len(own))
            hurt = own[:at] + chance.choice(["", " ", "  ", "\n", "x", "A", "-", "0", ":", "\n  write"]) + own[at + chance.randrange(3):]
            lines = hurt.split("\n")
            line = self.line_told(lines)
            if line is not None:
                self.assertEqual(self.line_told(lines[:line]), line, hurt)
                self.assertIn(self.line_told(lines[:line - 1]), (None, line), hurt)
            found.add(line)
        self.assertGreater(len(found), len(own.split("\n")) // 2)


class RefusedOrders(unittest.TestCase):
    def refused(self, error, value, *lines):
        with self.assertRaises(error) as caught:
            read_journal(text(*AHEAD, *lines))
        self.assertEqual(caught.exception.value, value)

    def test_each_error(self):
        self.refused(BadOrder, ((),), "  go -")
        self.refused(BadOrder, ((("town", "bari"),),), "  go town:bari")
        self.refused(BadOrder, (ROME, "owner", "x"), "  turn town:rome owner x")
        self.refused(BadOrder, (SHOP, "key", "x"), "  turn town:rome/shop:a key x")
        self.refused(BadOrder, ((), 3, ("town", ("x",), ())), "  come - 3", "    town x")
        self.refused(BadOrder, ((), 0, ("town", ("rome",), ())), "  come - 0", "    town rome")
        self.refused(BadOrder, ((("town", "bari"),), 0, ("shop", ("x", "y"), ())), "  come town:bari 0", "    shop x y")
        self.refused(BadWay, ("x", ()), "  edit x - first - - strike")
        self.refused(BadRule, ("first", (1, 0), ""), "  edit t town:rome first 1,0 - strike")
        self.refused(BadRule, ("first", (6,), ""), "  edit t town:rome first 6 - strike")
        self.refused(BadRule, ("only", (1, 1, 999), "in"), "  edit t town:rome only 1,1,999 in strike")
        long = ("ahead", ("a", "b", "c", "d", "e", "f", "g"))
        self.refused(BadEdits, (("t", ROME), WHOLE, long), "  edit t town:rome first - - ahead a b c d e f g")
        self.refused(NotMade, ("t", ()), "  edit t - first - - strike")
        self.refused(BadNumber, 0, "  drop 0")
        self.refused(BadNumber, 999, "  edit t town:rome first - - strike", "  drop 999")
        self.refused(BadPrograms, (TOWN, Program("kind a\npass")), "  exchange", "    kind a", "    pass")

    def test_the_first_one(self):
        self.refused(BadNumber, 3, "  write", "  drop 3", "  go town:bari", "  edit x - first - - strike")
        self.refused(BadOrder, ((("town", "bari"),),), "  write", "  go town:bari", "  drop 3")


class Wordings(unittest.TestCase):
    def test_numbers(self):
        for number in (0, 1, 9, 10, 99, 100, 999):
            with self.assertRaises(BadNumber) as caught:
                read_journal(text(*AHEAD, f"  drop {number}"))
            self.assertEqual(caught.exception.value, number)

    def test_paths_of_any_words(self):
        for path in itertools.product(("town", "x", "abcdefgh"), repeat=2):
            with self.assertRaises(BadOrder) as caught:
                read_journal(text(*AHEAD, "  go " + "/".join(f"{own}:rom" for own in path)))
            self.assertEqual(caught.exception.value, (tuple((own, "rom") for own in path),))


if __name__ == "__main__":
    unittest.main()
