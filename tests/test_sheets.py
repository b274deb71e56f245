import copy
import unittest

from handkept.errors import BadModel, BadSheet
from handkept.programs import Program
from handkept.sheets import is_change, is_sheet

from tests.samples import ODD_VALUES, nested

PROGRAM = Program("kind town\n  field lord\nkind shop in town\n  field owner\n  field ware\nkind item in shop\nkind road\npass")

FULL = (
    ("come", "item"), ("come", "road"), ("come", "shop"), ("come", "town"),
    ("go", "item"), ("go", "road"), ("go", "shop"), ("go", "town"),
    ("turn", "shop", "owner"), ("turn", "shop", "ware"), ("turn", "town", "lord"))


class Sheets(unittest.TestCase):
    def test_sheets(self):
        for sheet in [(), FULL, *[(leave,) for leave in FULL], FULL[:4], FULL[3:9], FULL[::2]]:
            self.assertIs(is_sheet(PROGRAM, sheet), True, sheet)

    def test_kinds_and_fields_that_there_are_not(self):
        for leave in (("come", "village"), ("go", "village"), ("turn", "village", "lord"), ("turn", "town", "owner"),
                      ("turn", "shop", "lord"), ("turn", "road", "lord"), ("come", ""), ("go", "owner"),
                      ("turn", "town", ""), ("turn", "", "lord"), ("come", "Town"), ("come", "town ")):
            self.assertIs(is_sheet(PROGRAM, (leave,)), False, leave)
            self.assertIs(is_sheet(PROGRAM, tuple(sorted(FULL + (leave,)))), False, leave)

    def test_keys_do_not_turn(self):
        for kind in ("town", "shop", "item", "road"):
            self.assertIs(is_sheet(PROGRAM, (("turn", kind, "key"),)), False)

    def test_other_forms(self):
        for leave in (("come",), ("go",), ("turn", "shop"), ("come", "shop", "owner"), ("go", "shop", "owner"),
                      ("turn", "shop", "owner", "ware"), ("stay", "shop"), ("", "shop"), ("shop", "come"), (), "come",
                      ("Come", "shop"), (None, "shop"), ("come", None), ("come", True), ("come", ("shop",)),
                      ("turn", "shop", ("owner",)), ("turn", "shop", 0), ["come", "shop"], {"come": "shop"},
                      (["come"], "shop"), ("come", ["shop"])):
            self.assertIs(is_sheet(PROGRAM, (leave,)), False, leave)
            self.assertIs(is_sheet(PROGRAM, (("come", "item"), leave)), False, leave)

    def test_sequence(self):
        self.assertIs(is_sheet(PROGRAM, FULL[::-1]), False)
        self.assertIs(is_sheet(PROGRAM, (FULL[1], FULL[0])), False)
        self.assertIs(is_sheet(PROGRAM, (("turn", "shop", "ware"), ("turn", "shop", "owner"))), False)
        self.assertIs(is_sheet(PROGRAM, (("turn", "shop", "owner"), ("come", "shop"))), False)

    def test_a_member_twice(self):
        for leave in FULL:
            self.assertIs(is_sheet(PROGRAM, (leave, leave)), False)

    def test_lists_are_no_tuples(self):
        self.assertIs(is_sheet(PROGRAM, list(FULL)), False)
        self.assertIs(is_sheet(PROGRAM, []), False)
        self.assertIs(is_sheet(PROGRAM, tuple(list(leave) for leave in FULL)), False)

    def test_any_value(self):
        for value in [*ODD_VALUES, *nested(30), "come", ("come", "shop"), {("come", "shop"): True}]:
            kept = copy.deepcopy(value)
            self.assertIs(is_sheet(PROGRAM, value), False, value)
            self.assertEqual(value, kept)

    def test_by_name(self):
        self.assertIs(is_sheet(value=FULL, program=PROGRAM), True)


def town(key, lord, *inner):
    return ("town", (key, lord), inner)


def shop(key, owner, ware, *inner):
    return ("shop", (key, owner, ware), inner)


def item(key):
    return ("item", (key,), ())


def road(key):
    return ("road", (key,), ())


ROME = town("rome", "ann", shop("a", "bo", "hats", item("i"), item("j")), shop("b", "cy", "shoes"))
MODEL = (road("x"), ROME, road("y"), town("pisa", "bea"))


class Changes(unittest.TestCase):
    def needs(self, elder, newer, *leaves):
        """Just these leaves are needed: with them it is a change, with all but one of them it is none."""
        sheet = tuple(sorted(leaves))
        self.assertIs(is_change(PROGRAM, sheet, elder, newer), True)
        self.assertIs(is_change(PROGRAM, FULL, elder, newer), True)
        for leave in sheet:
            self.assertIs(is_change(PROGRAM, tuple(one for one in FULL if one != leave), elder, newer), False, leave)
        if sheet:
            self.assertIs(is_change(PROGRAM, (), elder, newer), False)

    def never(self, elder, newer):
        self.assertIs(is_change(PROGRAM, FULL, elder, newer), False)

    def test_a_model_and_itself(self):
        for model in ((), (road("x"),), (ROME,), MODEL):
            self.needs(model, model)

    def test_fields_that_turn(self):
        self.needs((town("a", "x"),), (town("a", "y"),), ("turn", "town", "lord"))
        for words, field in ((("a", "di", "hats"), "owner"), (("a", "bo", "caps"), "ware")):
            newer = (town("rome", "ann", shop(*words, item("i"), item("j")), shop("b", "cy", "shoes")),)
            self.needs((ROME,), newer, ("turn", "shop", field))
        newer = (town("rome", "zoe", shop("a", "di", "caps", item("i"), item("j")), shop("b", "cy", "shoes")),)
        self.needs((ROME,), newer, ("turn", "shop", "owner"), ("turn", "shop", "ware"), ("turn", "town", "lord"))

    def test_a_field_that_turns_in_the_last_record_alone(self):
        elder = tuple(town(key, "x") for key in "abcd")
        self.needs(elder, elder[:3] + (town("d", "y"),), ("turn", "town", "lord"))

    def test_records_that_go(self):
        self.needs(MODEL, MODEL[1:], ("go", "road"))
        self.needs(MODEL, MODEL[:3], ("go", "town"))
        self.needs(MODEL, (), ("go", "road"), ("go", "town"))
        self.needs((ROME,), (town("rome", "ann", ROME[2][0]),), ("go", "shop"))
        self.needs((ROME,), (town("rome", "ann", shop("a", "bo", "hats", item("j")), ROME[2][1]),), ("go", "item"))

    def test_records_that_come(self):
        self.needs(MODEL[1:], MODEL, ("come", "road"))
        self.needs(MODEL[:3], MODEL, ("come", "town"))
        self.needs((), MODEL, ("come", "road"), ("come", "town"))
        self.needs((town("rome", "ann", ROME[2][0]),), (ROME,), ("come", "shop"))
        self.needs((town("rome", "ann", shop("a", "bo", "hats", item("j")), ROME[2][1]),), (ROME,), ("come", "item"))

    def test_what_is_in_a_record_that_went_or_came_needs_no_leave(self):
        self.needs((ROME,), (), ("go", "town"))
        self.needs((), (ROME,), ("come", "town"))
        self.needs((town("rome", "ann"),), (town("rome", "ann", ROME[2][0]),), ("come", "shop"))
        self.needs((town("rome", "ann", ROME[2][0]),), (town("rome", "ann"),), ("go", "shop"))

    def test_records_that_came_ahead_between_and_behind(self):
        elder = (road("b"), road("d"))
        newer = tuple(road(key) for key in "abcde")
        self.needs(elder, newer, ("come", "road"))
        self.needs(newer, elder, ("go", "road"))

    def test_records_in_another_sequence(self):
        self.never((road("x"), road("y")), (road("y"), road("x")))
        self.never((road("x"), town("x", "a")), (town("x", "a"), road("x")))
        self.never((road("x"), road("y"), road("z")), (road("y"), road("z"), road("x")))
        self.never((ROME,), (town("rome", "ann", *ROME[2][::-1]),))
        # Others went and came between them.
        self.never((road("x"), road("p"), road("y")), (road("y"), road("q"), road("x")))

    def test_a_key_that_is_another_one_went_and_came(self):
        self.needs((road("x"),), (road("y"),), ("come", "road"), ("go", "road"))
        self.needs((road("x"), road("y")), (road("y"), road("z")), ("come", "road"), ("go", "road"))
        self.needs((town("a", "x"),), (town("b", "x"),), ("come", "town"), ("go", "town"))

    def test_a_record_that_is_in_another_row_now(self):
        elder = (town("a", "x", shop("s", "bo", "hats")), town("b", "x"))
        newer = (town("a", "x"), town("b", "x", shop("s", "bo", "hats")))
        self.needs(elder, newer, ("come", "shop"), ("go", "shop"))

    def test_like_keys_of_unlike_kinds(self):
        elder = (road("x"), town("x", "a"))
        self.needs(elder, (town("x", "a"),), ("go", "road"))
        self.needs(elder, (road("x"),), ("go", "town"))
        self.needs((road("x"),), (town("x", "a"),), ("go", "road"), ("come", "town"))

    def test_several_kinds_mixed_in_a_row(self):
        elder = (town("a", "x"), road("p"), town("b", "x"), road("q"))
        newer = (road("o"), town("a", "x"), town("c", "x"), town("b", "y"), road("q"), town("d", "x"))
        self.needs(elder, newer, ("go", "road"), ("come", "road"), ("come", "town"), ("turn", "town", "lord"))

    def test_come_is_no_leave_to_go(self):
        for elder, newer, leave in (((), (road("x"),), ("go", "road")), ((road("x"),), (), ("come", "road"))):
            self.assertIs(is_change(PROGRAM, (leave,), elder, newer), False)

    def test_rows_of_changes_are_one_change(self):
        sheet = (("come", "item"), ("go", "shop"), ("turn", "town", "lord"))
        rows = (
            MODEL,
            (road("x"), town("rome", "zoe", shop("a", "bo", "hats", item("i"), item("k"), item("j"))), *MODEL[2:]),
            (road("x"), town("rome", "ann"), road("y"), town("pisa", "ida")),
            (road("x"), town("rome", "eve"), road("y"), town("pisa", "ida")),
        )
        for at, elder in enumerate(rows):
            for newer in rows[at:]:
                self.assertIs(is_change(PROGRAM, sheet, elder, newer), True)
        # Items that came went with their shop, which is gone in the end: that needs no leave to go.
        self.assertIs(is_change(PROGRAM, sheet[1:], rows[0], rows[3]), True)
        self.assertIs(is_change(PROGRAM, sheet[1:], rows[0], rows[1]), False)

    def test_by_name_and_arguments_stay(self):
        sheet, elder, newer = (("go", "road"),), [MODEL], [MODEL[1:]]
        self.assertIs(is_change(newer=newer[0], elder=elder[0], sheet=sheet, program=PROGRAM), True)
        self.assertEqual((sheet, elder, newer), ((("go", "road"),), [MODEL], [MODEL[1:]]))


class WrongInputs(unittest.TestCase):
    def refused(self, error, value, *arguments):
        with self.assertRaises(error) as caught:
            is_change(PROGRAM, *arguments)
        self.assertIs(caught.exception.value, value)

    def test_each_is_told_with_its_very_value(self):
        for value in (["no", "sheet"], {"a": []}, (("go", "village"),)):
            self.refused(BadSheet, value, value, MODEL, MODEL)
        for value in ([1], {"a": []}, (("village", ("a",), ()),), None):
            self.refused(BadModel, value, (), value, MODEL)
            self.refused(BadModel, value, (), MODEL, value)

    def test_the_sequence_of_errors(self):
        sheet, elder, newer = ["sheet"], ["elder"], ["newer"]
        self.refused(BadSheet, sheet, sheet, elder, newer)
        self.refused(BadModel, elder, (), elder, newer)
        self.refused(BadModel, newer, (), (), newer)

    def test_any_value(self):
        for value in [*ODD_VALUES, *nested(30)]:
            self.refused(BadSheet, value, value, (), ())
            self.refused(BadModel, value, (), value, ())
            self.refused(BadModel, value, (), (), value)


if __name__ == "__main__":
    unittest.main()
