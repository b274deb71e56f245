import unittest

from handkept.desk import Desk
from handkept.errors import (
    BadEdits, BadField, BadLabel, BadLine, BadNumber, BadOrder, BadRule, BadSheet, BadText, BadWay, BadWish, KeptError,
    NothingToRedo, NothingToUndo, NotMade, TooMany)
from handkept.journals import read_journal
from handkept.keeper import Keeper
from handkept.models import written
from handkept.programs import Program
from handkept.stays import stays
from handkept.touched import touched
from handkept.twins import twins

from tests.crowds import crowded
from tests.histories import History, drawn_model, drawn_programs, lead
from tests.questions import CLOSED, HEADED, QUESTIONS, TESTED, TOLD, TOWN
from tests.samples import ODD_VALUES, nested

ROME = (("town", "rome"),)
SHOP = ROME + (("shop", "a"),)
MODEL = (("town", ("rome",), (("shop", ("a", "bo"), ()), ("shop", ("b", "cy"), ()))),
         ("town", ("pisa",), (("shop", ("a", "di"), ()),)))
TEXT = "rome / a bo / b cy / pisa / a di"
DRAWN = 60

# Lines of which the first word alone is right, or not even that.
WRONG = (
    "", " ", "  ", "x", "undo ", " undo", "undo  ", "undo -", "undo 1", "Undo", "UNDO", "undo\n", "undo\t", "\tundo", "undo undo", "redo -",
    "redo ", "Redo", "text ", "text -", " text", "text edited", "Text", "edited ", "edited -", "edited 0", "wrongs ", "wrongs -", "wrongs 0",
    "write ", "write -", "write  ", "Write", " write", "writes", "write write",
    "go", "go ", "go  -", "go - ", "go - -", "go town", "go town:", "go :rome", "go town:rome/", "go /town:rome", "go town:rome//shop:a",
    "go town:rome shop:a", "go town:Rome", "go town:rome:x", "go town:abcdefghi", " go town:rome", "go  town:rome", "go town:rome ",
    "go town:rome\n", "Go town:rome", "go --", "go 0",
    "turn", "turn -", "turn - owner", "turn - owner x y", "turn town:rome/shop:a owner X", "turn town:rome/shop:a owner -",
    "turn town:rome/shop:a - x", "turn  town:rome/shop:a owner x", "turn town:rome/shop:a owner x ", "turn town:rome/shop:a owner",
    "turn town:rome/shop:a owner 1", "turn town owner x",
    "drop", "drop ", "drop -", "drop -1", "drop +1", "drop 00", "drop 01", "drop 1000", "drop 0000", "drop one", "drop 1 2", "drop 1.0",
    "drop  1", "drop 1 ", " drop 1",
    "edit", "edit t", "edit t town:rome", "edit t town:rome first", "edit t town:rome first - -", "edit t town:rome first - - ",
    "edit t town:rome first - - strike ", "edit t town:rome first - - strike x", "edit t town:rome last - - strike",
    "edit T town:rome first - - strike", "edit t rome first - - strike", "edit t town:rome first 1000 - strike",
    "edit t town:rome first 01 - strike", "edit t town:rome first 1, - strike", "edit t town:rome first , - strike",
    "edit t town:rome first x - strike", "edit t town:rome first - 1 strike", "edit t town:rome first - - ahead",
    "edit t town:rome first - - ahead X", "edit t town:rome first - - ahead x  y", "edit t town:rome first - - away x",
    "edit  t town:rome first - - strike", "edit - town:rome first - - strike", "edit t  first - - strike",
    "write t town:rome first - - strike", "go t town:rome first - - strike", "turn t town:rome first - - strike",
    "drop t town:rome first - - strike", "undo t town:rome first - - strike", "t town:rome first - - strike",
    "way", "way ", "way -", "way -1", "way 01", "way 1000", "way 0 0", "way x", "way  0", "way 0 ", "way t", "Way 0", "way 1.0",
    "stays", "stays s", "stays s first - - kept", "stays s first - - kept ", "stays s last - - kept -", "stays s first - - kept - -",
    "stays S first - - kept -", "stays - first - - kept -", "stays s first 1, - kept -", "stays s first - - - -",
    "stays s first - - Kept -", "stays s first - - kept come", "stays s first - - kept come shop,", "stays s first - - kept come shop ",
    "stays s first - - kept come shop,go shop", "stays s first - - kept come shop, ", "stays s first - - kept come shop,  go shop",
    "stays s first - - kept , come shop", "stays s first - - kept come shop go shop", "stays s first - - kept turn shop",
    "stays s first - - kept turn shop owner x", "stays s first - - kept come shop owner", "stays s first - - kept stop shop",
    "stays s first - - kept come Shop", "stays s first - - kept come -", "stays s first - - kept come shop, -",
    "stays s first - - kept -, come shop", "stays s  first - - kept -", "stays s first - - kept  -", "stays s first - - kept - ",
    "stays s first - - kept --", "stays s first - kept -",
    "twins", "twins ", "twins -", "twins S", "twins s t", "twins  s", "twins s ", " twins s", "twins 1", "Twins s",
    "touched", "touched ", "touched shop", "touched shop ", "touched shop owner x", "touched shop -", "touched - owner",
    "touched Shop owner", "touched  shop owner", "touched shop owner ", "touched shop  owner",
    "come - 0", "come - 0 town x", "exchange", "exchange x", "copy", "trial", "keep", "missing", "journal", "model", "orders", "keeper", "same",
    "quit", "edits", "program", "-", ";", "/", "line 0",
)


def desk_of(program=TOWN, model=MODEL):
    return Desk(Keeper(program, model).journal)


def told(keeper):
    return (keeper.program, keeper.model, keeper.text, keeper.edits, keeper.edited, keeper.orders, keeper.journal,
            keeper.wrongs())


class Beginning(unittest.TestCase):
    def test_the_keeper_of_the_journal(self):
        for number in range(DRAWN):
            drawing, *programs = drawn_programs(number)
            keeper = Keeper(programs[0], drawn_model(drawing, programs[0]))
            lead(History(drawing, keeper), programs, 12)
            desk = Desk(keeper.journal)
            self.assertIsInstance(desk.keeper, Keeper)
            self.assertEqual(told(desk.keeper), told(keeper))

    def test_by_name(self):
        desk = Desk(text=Keeper(TOWN, MODEL).journal)
        self.assertEqual(desk.say(line="text"), TEXT)

    def test_raises_as_read_journal(self):
        journal = Keeper(TOWN, MODEL).journal
        for value in [*ODD_VALUES, *nested(30), "", "program", journal + "\n", journal + "\n  writes", journal + "\n  drop 0",
                      journal + "\n  go -", journal[:-1], journal + "\n  edit t - first 1,1 - strike", Keeper(TOWN)]:
            errors = []
            for asked in (Desk, read_journal):
                with self.assertRaises(KeptError) as caught:
                    asked(value)
                errors.append((caught.exception.__class__, vars(caught.exception)))
            self.assertEqual(*errors)

    def test_errors(self):
        with self.assertRaises(BadText) as caught:
            Desk("")
        self.assertEqual(caught.exception.line, 1)
        with self.assertRaises(BadNumber):
            Desk(Keeper(TOWN).journal + "\n  drop 0")


class Said(unittest.TestCase):
    def test_orders(self):
        desk, keeper = desk_of(), Keeper(TOWN, MODEL)
        for line, order, answer in (
                ("edit t town:rome first - - strike", ("edit", ("t", ROME), ("first", (), ""), ("strike",)), "0"),
                ("edit s town:rome/shop:a only 1,5 - ahead x y",
                 ("edit", ("s", SHOP), ("only", (1, 5), ""), ("ahead", ("x", "y"))), None),
                ("edit s town:rome/shop:a first 1 in behind x",
                 ("edit", ("s", SHOP), ("first", (1,), "in"), ("behind", ("x",))), "1"),
                ("edit s town:rome/shop:b first 1 - instead x y z u v w",
                 ("edit", ("s", ROME + (("shop", "b"),)), ("first", (1,), ""), ("instead", tuple("xyzuvw"))), "2"),
                ("drop 0", ("drop", 0), "ok"),
                ("turn town:rome/shop:b owner eve", ("turn", ROME + (("shop", "b"),), "owner", "eve"), "ok"),
                ("go town:rome/shop:a", ("go", SHOP), "ok"),
                ("write", ("write",), "1 astray 3; 2 kept 1"),
                ("go town:rome", ("go", ROME), "ok"),
                ("write", ("write",), "1 kept 1; 2 gone -")):
            if answer is None:
                with self.assertRaises(NotMade):
                    desk.say(line)
                continue
            self.assertEqual(desk.say(line), answer)
            keeper.do(order)
            self.assertEqual(told(desk.keeper), told(keeper))

    def test_undo_and_redo(self):
        desk = desk_of()
        desk.say("go town:rome")
        self.assertEqual(desk.say("undo"), "ok")
        self.assertEqual(desk.keeper.orders, ())
        self.assertEqual(desk.say("redo"), "ok")
        self.assertEqual(desk.keeper.orders, (("go", ROME),))
        desk.say("undo")
        desk.say("write")
        with self.assertRaises(NothingToRedo):
            desk.say("redo")
        desk.say("undo")
        with self.assertRaises(NothingToUndo):
            desk.say("undo")

    def test_write(self):
        desk = desk_of()
        self.assertEqual(desk.say("write"), "-")
        desk.say("edit s town:rome/shop:b first - - strike")
        self.assertEqual(desk.say("write"), "0 kept 2")
        desk.say("turn town:rome/shop:b owner x")
        self.assertEqual(desk.say("write"), "0 lost -")
        desk.say("edit t town:pisa first - - strike")
        desk.say("go town:rome/shop:b")
        desk.say("go town:pisa")
        self.assertEqual(desk.say("write"), "0 gone -; 1 gone -")
        desk.say("drop 0")
        desk.say("drop 1")
        self.assertEqual(desk.say("write"), "-")

    def test_text_and_edited(self):
        desk = desk_of()
        self.assertEqual((desk.say("text"), desk.say("edited")), (TEXT, TEXT))
        desk.say("edit t town:rome first - - ahead x y")
        desk.say("edit s town:pisa/shop:a first - - strike")
        self.assertEqual((desk.say("text"), desk.say("edited")), (TEXT, "x y / rome / a bo / b cy / pisa"))
        desk.say("go town:rome")
        self.assertEqual(desk.say("text"), TEXT)
        desk.say("write")
        self.assertEqual((desk.say("text"), desk.say("edited")), ("pisa / a di", "pisa"))
        desk.say("edit t town:pisa first - - strike")
        self.assertEqual((desk.say("text"), desk.say("edited")), ("pisa / a di", "-"))
        desk.say("go town:pisa")
        desk.say("write")
        self.assertEqual((desk.say("text"), desk.say("edited")), ("-", "-"))

    def test_wrongs(self):
        desk = desk_of()
        self.assertEqual(desk.say("wrongs"), "-")
        desk.say("edit s town:rome/shop:a first - - strike")
        desk.say("edit s town:rome/shop:b first 1 - strike")
        desk.say("turn town:rome/shop:a owner x")
        desk.say("write")
        self.assertEqual(desk.say("wrongs"), "0 0 lost")
        desk.say("write")
        desk.say("undo")
        self.assertEqual(desk.say("wrongs"), "0 0 lost")
        desk.say("turn town:rome/shop:a owner bo")
        desk.say("write")
        desk.say("turn town:pisa/shop:a owner bo")
        desk.say("go town:rome/shop:a")
        desk.say("write")
        self.assertEqual(desk.say("wrongs"), "0 0 lost; 2 0 astray")

    def test_way(self):
        desk = desk_of()
        for number, way in enumerate(("t town:rome", "s town:rome/shop:a", "s town:rome/shop:b", "t town:pisa", "s town:pisa/shop:a",
                                      "-", "-")):
            self.assertEqual(desk.say(f"way {number}"), way)
        self.assertEqual([desk.say(f"way {number}") for number in (10, 99, 999)], ["-"] * 3)
        # Of the text written last.
        desk.say("go town:rome")
        self.assertEqual(desk.say("way 0"), "t town:rome")
        desk.say("write")
        self.assertEqual((desk.say("way 0"), desk.say("way 2")), ("t town:pisa", "-"))
        desk.say("undo")
        self.assertEqual(desk.say("way 2"), "s town:rome/shop:b")

    def test_ways_of_heads(self):
        desk = desk_of(HEADED, (("a", ("k",), (("b", ("p",), ()),)),))
        self.assertEqual([desk.say(f"way {number}") for number in range(3)], ["h a:k", "l a:k/b:p", "-"])
        desk = desk_of(TOLD, (("a", ("k", "u"), ()),))
        self.assertEqual([desk.say(f"way {number}") for number in range(3)], ["top -", "h -", "l a:k"])

    def test_edits_by_the_ways_that_are_told(self):
        for number in range(DRAWN):
            drawing, program, _ = drawn_programs(number)
            model = drawn_model(drawing, program)
            desk = desk_of(program, model)
            lines = written(program, model)
            for at, (way, _) in enumerate(lines):
                said = desk.say(f"way {at}")
                try:
                    desk.say(f"edit {said} first - - strike")
                except NotMade as unmade:
                    self.assertEqual(unmade.value, way)
                    continue
                self.assertEqual(desk.keeper.edits[-1][1], way)
            self.assertEqual(desk.say(f"way {len(lines)}"), "-")

    def test_stays(self):
        told = set()
        for (elder, newer, sheet, label, rule, wish), _ in QUESTIONS.values():
            desk = desk_of(elder, ())
            leaves = ", ".join(" ".join(leave) for leave in sheet) or "-"
            places = ",".join(str(place) for place in rule[1]) or "-"
            line = f"stays {label} {rule[0]} {places} {rule[2] or '-'} {wish} {leaves}"
            answer = desk.say(line)
            self.assertEqual(answer, stays(elder, elder, sheet, label, rule, wish)[0])
            self.assertEqual(desk.keeper, Keeper(elder, ()))
            told.add(answer)
        self.assertEqual(told, {"always", "wrong"})

    def test_stays_in_each_form(self):
        desk = desk_of()
        for line, answer in (
                ("stays s first - - kept -", "always"), ("stays s first - - kept turn shop owner", "wrong"),
                ("stays t only - - kept come shop, go shop, turn shop owner", "always"), ("stays s first 1 - true come shop", "wrong"),
                ("stays s first 0,1 town kept come town, go town", "wrong"), ("stays s only 0,1,5 - true come shop, turn shop owner", "always")):
            self.assertEqual(desk.say(line), answer)

    def test_twins(self):
        for program in (TOWN, TOLD, TESTED, CLOSED, HEADED):
            desk = desk_of(program, ())
            for label in program.labels:
                labels = [row[0] for row in twins(program, label)[0] if row[1] is not None]
                self.assertEqual(desk.say("twins " + label), " ".join(labels) or "-")
        self.assertEqual([desk_of().say("twins " + label) for label in "ts"], ["-", "s"])

    def test_touched(self):
        for program in (TOWN, TOLD, TESTED, CLOSED):
            desk = desk_of(program, ())
            for kind, _, fields in program.kinds:
                for field in fields:
                    labels = [row[0] for row in touched(program, kind, field)[0] if row[1] is not None]
                    self.assertEqual(desk.say(f"touched {kind} {field}"), " ".join(labels) or "-")
        self.assertEqual(desk_of().say("touched shop owner"), "s")
        self.assertEqual(desk_of(CLOSED, ()).say("touched a x"), "l m")
        self.assertEqual(desk_of(Program("kind a\n  field x\npass\n  open a\n    line l a.key"), ()).say("touched a x"), "-")

    def test_the_present_program_is_asked(self):
        desk = desk_of()
        desk.keeper.exchange(Program(TOWN.text + " town.key"))
        self.assertEqual(desk.say("stays s first 1 - kept come shop"), "always")
        desk.say("undo")
        self.assertEqual(desk.say("stays s first 1 - kept come shop"), "wrong")

    def test_what_is_asked_changes_nothing(self):
        desk = desk_of()
        desk.say("edit s town:rome/shop:a first - - strike")
        desk.say("go town:pisa")
        desk.say("undo")
        ahead = told(desk.keeper)
        for line in ("text", "edited", "wrongs", "way 0", "stays s first - - kept -", "twins s", "touched shop owner"):
            self.assertEqual(desk.say(line), desk.say(line))
            self.assertEqual(told(desk.keeper), ahead)
        desk.say("redo")
        self.assertEqual(desk.keeper.orders[-1], ("go", (("town", "pisa"),)))

    def test_desks_go_on_by_themselves(self):
        one, other = desk_of(), desk_of()
        one.say("go town:rome")
        self.assertEqual(other.keeper.orders, ())
        self.assertIsNot(one.keeper, other.keeper)


class Refused(unittest.TestCase):
    def setUp(self):
        self.desk = desk_of()
        self.desk.say("edit t town:rome first - - strike")
        self.desk.say("go town:pisa")
        self.desk.say("undo")
        self.ahead = told(self.desk.keeper)

    def refused(self, error, line, value=None):
        with self.assertRaises(error) as caught:
            self.desk.say(line)
        if value is not None:
            self.assertEqual(caught.exception.value, value)
        self.assertEqual(told(self.desk.keeper), self.ahead)
        return caught.exception

    def tearDown(self):
        self.desk.say("redo")

    def test_lines_of_no_form(self):
        for line in WRONG:
            self.assertIs(self.refused(BadLine, line).value, line)

    def test_values_of_any_kind(self):
        for value in [*ODD_VALUES, *nested(30), ["text"], ("text",), {"text": 1}, [["go", "-"]]]:
            self.assertIs(self.refused(BadLine, value).value, value)

    def test_what_the_keeper_raises(self):
        self.refused(BadOrder, "go -", ((),))
        self.refused(BadOrder, "go town:bari", ((("town", "bari"),),))
        self.refused(BadOrder, "go village:bari/x:y", ((("village", "bari"), ("x", "y")),))
        self.refused(BadOrder, "turn town:rome owner x", (ROME, "owner", "x"))
        self.refused(BadOrder, "turn town:rome/shop:a key x", (SHOP, "key", "x"))
        self.refused(BadOrder, "turn - owner x", ((), "owner", "x"))
        for number in (1, 10, 999):
            self.refused(BadNumber, f"drop {number}", number)
        self.refused(BadWay, "edit x town:rome first - - strike", ("x", ROME))
        self.refused(BadRule, "edit t town:rome first 6 - strike", ("first", (6,), ""))
        self.refused(BadRule, "edit t town:rome only 2,1,999 at strike", ("only", (2, 1, 999), "at"))
        long = ("ahead", tuple("abcdefg"))
        self.refused(BadEdits, "edit t town:rome first - - ahead a b c d e f g", (("t", ROME), ("first", (), ""), long))
        self.refused(NotMade, "edit t town:bari first - - strike", ("t", (("town", "bari"),)))
        self.refused(NotMade, "edit s town:pisa/shop:a first 1 - strike", ("s", (("town", "pisa"), ("shop", "a"))))

    def test_what_the_functions_raise(self):
        self.refused(BadLabel, "twins x", "x")
        self.refused(BadField, "touched shop key", ("shop", "key"))
        self.refused(BadField, "touched town owner", ("town", "owner"))
        self.refused(BadField, "touched village x", ("village", "x"))
        self.refused(BadSheet, "stays s first - - kept go shop, come shop", (("go", "shop"), ("come", "shop")))
        self.refused(BadSheet, "stays x first - - kept come x", (("come", "x"),))
        self.refused(BadSheet, "stays x first 9 - away come shop, come shop", (("come", "shop"), ("come", "shop")))
        self.refused(BadSheet, "stays s first - - kept turn shop key", (("turn", "shop", "key"),))
        self.refused(BadLabel, "stays x first 9 - away come shop", "x")
        self.refused(BadRule, "stays s first 9 - away come shop", ("first", (9,), ""))
        self.refused(BadWish, "stays s first - - away come shop", "away")
        self.refused(BadWish, "stays s first - - always -", "always")

    def test_too_many(self):
        self.desk = desk_of(crowded(55, 136), ())
        self.ahead = told(self.desk.keeper)
        self.assertEqual(self.refused(TooMany, "stays z first - - kept -").number, 6000)
        self.desk.say("write")
        self.desk.say("undo")


if __name__ == "__main__":
    unittest.main()
