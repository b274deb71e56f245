import copy
import itertools
import unittest

from handkept.errors import (
    BadEdits, BadModel, BadNumber, BadOrder, BadPrograms, BadRule, BadWay, KeptError, NotMade, NothingToRedo,
    NothingToUndo)
from handkept.keeper import Keeper
from handkept.models import is_model, written
from handkept.programs import Program

from tests.histories import History, drawn_model, drawn_programs, lead
from tests.plain_keeper import PlainKeeper
from tests.questions import HEADED, KEYS, TITLED, TOWN, TWICE, WITHOUT
from tests.samples import ODD_VALUES, nested

DRAWN = 150
WHOLE, SKIPPED, ONLY = ("first", (), ""), ("first", (1,), ""), ("only", (), "")
AHEAD, BEHIND, INSTEAD, STRIKE = ("ahead", ("x",)), ("behind", ("y", "z")), ("instead", ("w",)), ("strike",)


def shop(key, owner="bo"):
    return ("shop", (key, owner), ())


def town(key, *shops):
    return ("town", (key,), shops)


def path(*keys):
    return tuple(zip(("town", "shop"), keys))


def way(*keys):
    return ("ts"[len(keys) - 1], path(*keys))


MODEL = (town("rome", shop("a"), shop("b", "cy")), town("pisa", shop("a", "di")))
DEEP = Program("kind a\nkind b in a\nkind c in b\n  field x\n  field y\nkind d\npass\n  open c\n    line l a.key b.key c.x c.y")


def told(keeper):
    """All that a keeper shows."""
    return (keeper.program, keeper.model, keeper.text, keeper.edits, keeper.edited, keeper.orders, keeper.journal,
            keeper.wrongs())


def undone_of(keeper):
    """What can be done again, by doing so with a copy."""
    twin = keeper.copy()
    found = []
    while True:
        try:
            twin.redo()
        except NothingToRedo:
            return found
        found.append(told(twin))


class Refusing(unittest.TestCase):
    def refused(self, error, keeper, ask, value=None):
        """What is refused changes nothing; the error's argument is told."""
        ahead = told(keeper), undone_of(keeper)
        with self.assertRaises(error) as caught:
            ask()
        self.assertEqual((told(keeper), undone_of(keeper)), ahead)
        if value is not None:
            self.assertEqual(caught.exception.value, value)
            for own, wanted in zip(caught.exception.value, value):
                self.assertIs(own, wanted)
        return caught.exception


class Beginning(unittest.TestCase):
    def test_before_any_order(self):
        for model in ((), MODEL):
            keeper = Keeper(TOWN, model)
            lines = tuple(words for _, words in written(TOWN, model))
            self.assertIs(keeper.program, TOWN)
            self.assertEqual(told(keeper)[1:6], (model, lines, (), lines, ()))
            self.assertEqual(keeper.wrongs(), ())

    def test_the_model_is_left_out(self):
        self.assertEqual(Keeper(TOWN).model, ())
        self.assertEqual(Keeper(TOWN), Keeper(program=TOWN, model=()))

    def test_models(self):
        for value in [*ODD_VALUES, *nested(30), list(MODEL), MODEL + MODEL[:1], (shop("a"),), None]:
            if value != ():
                with self.assertRaises(BadModel) as caught:
                    Keeper(TOWN, value)
                self.assertIs(caught.exception.value, value)

    def test_orders_return_none(self):
        keeper = Keeper(TOWN, MODEL)
        keeper.edit(way("rome"), WHOLE, AHEAD)
        for order in (lambda: keeper.come((), 0, town("bari")), lambda: keeper.go(path("bari")),
                      lambda: keeper.turn(path("rome", "a"), "owner", "x"), lambda: keeper.exchange(TOWN), keeper.undo,
                      keeper.redo, lambda: keeper.drop(0), keeper.undo, keeper.redo):
            self.assertIsNone(order())


class Changes(Refusing):
    def test_come_at_each_place(self):
        rows = {(): MODEL, path("rome"): MODEL[0][2], path("pisa"): MODEL[1][2]}
        for own, row in rows.items():
            record = shop("n", "eve") if own else town("nola", shop("a"), shop("b"))
            for place in range(len(row) + 1):
                keeper = Keeper(TOWN, MODEL)
                keeper.come(own, place, record)
                wanted = row[:place] + (record,) + row[place:]
                self.assertEqual(keeper.model, wanted if own == () else tuple(
                    (*one[:2], wanted if one[1] == (own[0][1],) else one[2]) for one in MODEL))
                self.assertEqual(keeper.orders, (("come", own, place, record),))
                self.assertEqual(keeper.text, Keeper(TOWN, MODEL).text)
                self.assertIs(keeper.program, TOWN)

    def test_rows_far_in(self):
        keeper = Keeper(DEEP)
        keeper.come((), 0, ("a", ("k",), (("b", ("l",), ()),)))
        keeper.come((), 0, ("d", ("k",), ()))
        inner = (("a", "k"), ("b", "l"))
        keeper.come(inner, 0, ("c", ("m", "u", "v"), ()))
        keeper.come(inner, 1, ("c", ("n", "u", "v"), ()))
        keeper.come(inner, 1, ("c", ("o", "u", "v"), ()))
        keeper.turn((*inner, ("c", "o")), "y", "w")
        keeper.turn((*inner, ("c", "n")), "x", "z")
        keeper.go((*inner, ("c", "m")))
        row = (("c", ("o", "u", "w"), ()), ("c", ("n", "z", "v"), ()))
        self.assertEqual(keeper.model, (("d", ("k",), ()), ("a", ("k",), (("b", ("l",), row),))))
        keeper.go(inner)
        self.assertEqual(keeper.model, (("d", ("k",), ()), ("a", ("k",), ())))
        self.assertEqual(len(keeper.orders), 9)

    def test_go_with_what_is_in_it(self):
        for own, model in ((path("rome"), MODEL[1:]), (path("pisa"), MODEL[:1]),
                           (path("rome", "a"), (town("rome", shop("b", "cy")), MODEL[1])),
                           (path("pisa", "a"), (MODEL[0], town("pisa")))):
            keeper = Keeper(TOWN, MODEL)
            keeper.go(own)
            self.assertEqual(keeper.model, model)
            self.assertEqual(keeper.orders, (("go", own),))
            self.assertEqual(keeper.text, Keeper(TOWN, MODEL).text)

    def test_turn(self):
        keeper = Keeper(TOWN, MODEL)
        keeper.turn(path("rome", "b"), "owner", "eve")
        self.assertEqual(keeper.model, (town("rome", shop("a"), shop("b", "eve")), MODEL[1]))
        keeper.turn(path("rome", "b"), "owner", "eve")
        self.assertEqual(keeper.orders, (("turn", path("rome", "b"), "owner", "eve"),) * 2)

    def test_by_name(self):
        keeper = Keeper(model=MODEL, program=TOWN)
        keeper.come(record=town("bari"), place=1, path=())
        keeper.turn(word="x", field="owner", path=path("rome", "a"))
        keeper.go(path=path("bari"))
        keeper.exchange(newer=TOWN)
        self.assertEqual(keeper.edit(deed=STRIKE, rule=WHOLE, way=way("rome")), 0)
        keeper.drop(number=0)
        self.assertEqual([order[0] for order in keeper.orders], ["come", "turn", "go", "exchange", "edit", "drop"])

    def test_what_cannot_come(self):
        keeper = Keeper(TOWN, MODEL)
        record, rome = shop("c"), path("rome")
        for own in [*ODD_VALUES, *nested(30), path("bari"), path("rome", "a"), path("rome", "c"), list(path("rome")),
                    (("shop", "rome"),), (["town", "rome"],), ("town", "rome"), path("rome")[0], (("town", "rome", ""),),
                    path("pisa", "b"), (("town", "rome"), ("town", "pisa")), (("shop", "a"),)]:
            self.refused(BadOrder, keeper, lambda: keeper.come(own, 0, record), (own, 0, record))
        for place in [value for value in ODD_VALUES if value not in (0, 1) or isinstance(value, bool)] + [
                *nested(30), -1, 3, 4, 200, "0", 10 ** 20]:
            self.refused(BadOrder, keeper, lambda: keeper.come(rome, place, record), (rome, place, record))
        for own in [*ODD_VALUES, *nested(30), shop("a"), shop("b", "x"), town("c"), ("shop", ("c",), ()), ("shop", ("c", "D"), ()),
                    ("shop", ["c", "d"], ()), list(record), ("shop", ("c", "d")), ("shop", ("c", "d"), (shop("e"),)),
                    ("shop", ("c", "d"), None), ("stop", ("c", "d"), ()), (record,), ("shop", ("c", "d", "e"), ()), None]:
            self.refused(BadOrder, keeper, lambda: keeper.come(rome, 0, own), (rome, 0, own))
        for own in (town("rome"), town("bari", shop("a"), shop("a")), shop("c"), town("Bari")):
            self.refused(BadOrder, keeper, lambda: keeper.come((), 1, own), ((), 1, own))

    def test_what_cannot_go(self):
        keeper = Keeper(TOWN, MODEL)
        for own in [*ODD_VALUES, *nested(30), (), path("bari"), path("rome", "c"), path("bari", "a"), list(path("rome")), "town",
                    (["town", "rome"],), ("town", "rome"), (("town", "rome"), ["shop", "a"]), (("town", "rome"), None),
                    (*path("rome", "a"), ("shop", "a")), (("shop", "a"),), (("town", "rome", "x"),)]:
            error = self.refused(BadOrder, keeper, lambda: keeper.go(own))
            self.assertEqual(len(error.value), 1)
            self.assertIs(error.value[0], own)

    def test_what_cannot_turn(self):
        keeper = Keeper(TOWN, MODEL)
        own = path("rome", "a")
        for value in [*ODD_VALUES, *nested(30), (), path("bari"), path("rome", "c"), list(own), (("town", "rome"), ["shop", "a"])]:
            self.refused(BadOrder, keeper, lambda: keeper.turn(value, "owner", "x"), (value, "owner", "x"))
        for value in [*ODD_VALUES, *nested(30), "key", "", "Owner", "shop", "x", ("owner",), ["owner"], "own"]:
            self.refused(BadOrder, keeper, lambda: keeper.turn(own, value, "x"), (own, value, "x"))
        for value in [*ODD_VALUES, *nested(30), "", "X", "abcdefghi", "a b", ("x",), ["x"], "x1", "-"]:
            self.refused(BadOrder, keeper, lambda: keeper.turn(own, "owner", value), (own, "owner", value))
        rome = path("rome")
        self.refused(BadOrder, keeper, lambda: keeper.turn(rome, "owner", "x"), (rome, "owner", "x"))

    def test_refused_behind_orders_that_were_taken_back(self):
        keeper = Keeper(TOWN, MODEL)
        keeper.go(path("rome"))
        keeper.go(path("pisa"))
        keeper.undo()
        rome = path("rome")
        self.refused(BadOrder, keeper, lambda: keeper.go(rome), (rome,))
        self.refused(BadNumber, keeper, lambda: keeper.drop(0))
        keeper.redo()
        self.assertEqual(keeper.model, ())

    def test_exchange(self):
        keeper = Keeper(TWICE, (("a", ("k", "u"), ()),))
        lines = keeper.text
        keeper.exchange(WITHOUT)
        self.assertIs(keeper.program, WITHOUT)
        self.assertEqual((keeper.text, keeper.edited, keeper.orders), (lines, lines, (("exchange", WITHOUT),)))
        keeper.write()
        self.assertEqual(keeper.text, (("k", "u"),))
        error = self.refused(BadPrograms, keeper, lambda: keeper.exchange(TOWN), (WITHOUT, TOWN))
        self.assertEqual(len(error.value), 2)
        self.refused(BadPrograms, keeper, lambda: keeper.exchange(Program("kind a\npass")))


class Edits(Refusing):
    def test_numbers(self):
        keeper = Keeper(TOWN, MODEL)
        self.assertEqual([keeper.edit(way("rome"), WHOLE, AHEAD) for _ in range(3)], [0, 1, 2])
        keeper.drop(1)
        keeper.drop(2)
        self.assertEqual(keeper.edit(way("pisa"), WHOLE, STRIKE), 3)
        self.assertEqual(keeper.edits, ((0, way("rome"), WHOLE, AHEAD), (3, way("pisa"), WHOLE, STRIKE)))
        keeper.undo()
        self.assertEqual(keeper.edit(way("pisa"), WHOLE, AHEAD), 3)
        self.assertEqual(keeper.orders[3:5], (("drop", 1), ("drop", 2)))

    def test_more_than_eight_edits_at_one_line(self):
        keeper = Keeper(TOWN, MODEL)
        for number in range(30):
            keeper.edit(way("rome"), WHOLE, (AHEAD, INSTEAD, BEHIND)[number % 3])
        self.assertEqual(keeper.edited, (("x",),) * 10 + (("w",),) + (("y", "z"),) * 10 + keeper.text[1:])

    def test_of_two_that_change_a_line_the_earlier_one_counts(self):
        for deeds in itertools.permutations((INSTEAD, STRIKE, ("instead", ("v",)))):
            keeper = Keeper(TOWN, MODEL)
            for deed in deeds:
                keeper.edit(way("rome"), WHOLE, deed)
            own = [() if deed == STRIKE else (deed[1],) for deed in deeds]
            for number in range(3):
                self.assertEqual(keeper.edited, own[number] + keeper.text[1:])
                keeper.write()
                self.assertEqual(keeper.edited, own[number] + keeper.text[1:])
                keeper.drop(number)
            self.assertEqual(keeper.edited, keeper.text)

    def test_edits_are_made_at_the_text_written_last(self):
        keeper = Keeper(TOWN, MODEL)
        keeper.go(path("rome"))
        keeper.come((), 0, town("bari"))
        self.assertEqual(keeper.edit(way("rome"), WHOLE, AHEAD), 0)
        self.refused(NotMade, keeper, lambda: keeper.edit(way("bari"), WHOLE, AHEAD))
        keeper.write()
        self.assertEqual(keeper.edit(way("bari"), WHOLE, AHEAD), 1)

    def test_labels_are_those_of_the_program_that_wrote_the_text(self):
        keeper = Keeper(TWICE, (("a", ("k", "u"), ()),))
        keeper.exchange(WITHOUT)
        self.assertEqual(keeper.edit(("l", (("a", "k"),)), WHOLE, STRIKE), 0)
        keeper.write()
        own = ("l", (("a", "k"),))
        self.assertIs(self.refused(BadWay, keeper, lambda: keeper.edit(own, WHOLE, STRIKE)).value, own)
        keeper.exchange(TWICE)
        self.refused(BadWay, keeper, lambda: keeper.edit(own, WHOLE, STRIKE))
        keeper.write()
        self.assertEqual(keeper.edit(own, WHOLE, STRIKE), 1)

    def test_sequence_of_errors(self):
        keeper = Keeper(TOWN, MODEL)
        missing = way("bari")
        for value in [*ODD_VALUES, *nested(30), ("x", ()), ("t", None), ("t", [("town", "rome")]), list(way("rome")), ("t", (("town",),))]:
            self.assertIs(self.refused(BadWay, keeper, lambda: keeper.edit(value, None, None)).value, value)
        for value in [*ODD_VALUES, *nested(30), (), ("last", (), ""), ("first", (6,), ""), list(WHOLE)]:
            self.assertIs(self.refused(BadRule, keeper, lambda: keeper.edit(missing, value, None)).value, value)
        for value in [*ODD_VALUES, *nested(30), (), ("strike", ()), ["strike"], ("ahead", ()), ("ahead", ("x",) * 7), ("ahead", ["x"]),
                      ("away", ("x",)), ("instead", ("X",))]:
            self.refused(BadEdits, keeper, lambda: keeper.edit(missing, WHOLE, value), (missing, WHOLE, value))
        self.assertIs(self.refused(NotMade, keeper, lambda: keeper.edit(missing, WHOLE, STRIKE)).value, missing)
        shadowed = way("pisa", "a")
        self.assertIs(self.refused(NotMade, keeper, lambda: keeper.edit(shadowed, SKIPPED, STRIKE)).value, shadowed)

    def test_drop(self):
        keeper = Keeper(TOWN, MODEL)
        for _ in range(3):
            keeper.edit(way("rome"), WHOLE, AHEAD)
        keeper.drop(1)
        for value in [own for own in ODD_VALUES if own != 0 or isinstance(own, bool)] + [
                *nested(30), 1, 3, -1, True, False, None, "0", (0,), 10 ** 20]:
            self.assertIs(self.refused(BadNumber, keeper, lambda: keeper.drop(value)).value, value)
        keeper.drop(0)
        self.refused(BadNumber, keeper, lambda: keeper.drop(0))
        self.assertEqual([edit[0] for edit in keeper.edits], [2])


class Writing(unittest.TestCase):
    def test_the_text_is_written_anew(self):
        keeper = Keeper(TOWN, MODEL)
        self.assertEqual(keeper.write(), ())
        keeper.go(path("rome"))
        self.assertEqual(keeper.text[0], ("rome",))
        self.assertEqual(keeper.write(), ())
        self.assertEqual((keeper.text, keeper.edited), ((("pisa",), ("a", "di")),) * 2)
        self.assertEqual(keeper.orders, (("write",), ("go", path("rome")), ("write",)))

    def test_each_fate(self):
        keeper = Keeper(TOWN, MODEL)
        keeper.edit(way("rome"), WHOLE, AHEAD)
        keeper.edit(way("rome", "a"), SKIPPED, STRIKE)
        keeper.edit(way("rome", "b"), WHOLE, BEHIND)
        keeper.edit(way("pisa"), WHOLE, INSTEAD)
        keeper.go(path("rome", "a"))
        keeper.turn(path("rome", "b"), "owner", "eve")
        keeper.go(path("pisa"))
        keeper.come((), 0, town("bari", shop("a", "x")))
        self.assertEqual(keeper.write(), ((0, "kept", 2), (1, "astray", 1), (2, "lost", None), (3, "gone", None)))
        self.assertEqual(keeper.wrongs(), ((0, 1, "astray"), (0, 2, "lost")))
        self.assertEqual(keeper.edited, (("bari",), ("x",), ("rome",), ("b", "eve")))
        self.assertEqual(keeper.edits, (
            (0, way("rome"), WHOLE, AHEAD), (1, way("bari", "a"), SKIPPED, STRIKE), (2, way("rome", "b"), WHOLE, BEHIND),
            (3, way("pisa"), WHOLE, INSTEAD)))

    def test_an_edit_that_went_astray_hangs_there_from_now_on(self):
        keeper = Keeper(TOWN, MODEL)
        keeper.edit(way("rome", "a"), SKIPPED, STRIKE)
        keeper.go(path("rome", "a"))
        self.assertEqual(keeper.write(), ((0, "astray", 3),))
        self.assertEqual(keeper.edits[0][1], way("pisa", "a"))
        self.assertEqual(keeper.write(), ((0, "kept", 3),))
        # Its own line comes again: this is another one now.
        keeper.come(path("rome"), 0, shop("a"))
        self.assertEqual(keeper.write(), ((0, "astray", 1),))
        self.assertEqual(keeper.edits[0][1], way("rome", "a"))
        self.assertEqual(keeper.wrongs(), ((0, 0, "astray"), (2, 0, "astray")))

    def test_one_that_is_gone_comes_home(self):
        keeper = Keeper(TOWN, MODEL)
        keeper.edit(way("rome", "b"), WHOLE, STRIKE)
        keeper.go(path("rome", "b"))
        self.assertEqual([keeper.write(), keeper.write()], [((0, "gone", None),)] * 2)
        keeper.come(path("rome"), 0, shop("b", "dan"))
        self.assertEqual(keeper.write(), ((0, "lost", None),))
        keeper.turn(path("rome", "b"), "owner", "cy")
        self.assertEqual(keeper.write(), ((0, "kept", 1),))
        self.assertEqual(keeper.edited, tuple(line for line in keeper.text if line != ("b", "cy")))
        self.assertEqual(keeper.wrongs(), ((2, 0, "lost"),))

    def test_one_that_is_lost_remembers_what_it_did(self):
        keeper = Keeper(TOWN, MODEL)
        keeper.edit(way("rome", "b"), WHOLE, STRIKE)
        keeper.turn(path("rome", "b"), "owner", "eve")
        self.assertEqual(keeper.write(), ((0, "lost", None),))
        keeper.come(path("pisa"), 0, shop("b", "cy"))
        self.assertEqual(keeper.write(), ((0, "astray", 4),))
        self.assertEqual(keeper.edits[0][1], way("pisa", "b"))

    def test_another_line_that_fits_is_asked_at_the_next_writing(self):
        keeper = Keeper(KEYS, (("a", ("k", "u"), ()),))
        keeper.edit(("l", (("a", "k"),)), ("only", (0,), ""), AHEAD)
        keeper.come((), 1, ("a", ("m", "u"), ()))
        self.assertEqual(keeper.edits[0][0], 0)
        self.assertEqual(keeper.write(), ((0, "lost", None),))
        self.assertEqual(keeper.edited, keeper.text)
        keeper.go((("a", "m"),))
        self.assertEqual(keeper.write(), ((0, "kept", 0),))

    def test_an_exchange_amid_and_labels_that_are_missing(self):
        keeper = Keeper(TWICE, (("a", ("k", "u"), ()),))
        keeper.edit(("l", (("a", "k"),)), WHOLE, BEHIND)
        keeper.edit(("m", (("a", "k"),)), WHOLE, STRIKE)
        keeper.exchange(WITHOUT)
        self.assertEqual(keeper.edited, (("k",), ("y", "z")))
        self.assertEqual(keeper.write(), ((0, "gone", None), (1, "kept", 0)))
        self.assertEqual((keeper.text, keeper.edited), ((("k", "u"),), ()))
        keeper.exchange(TWICE)
        self.assertEqual(keeper.write(), ((0, "kept", 0), (1, "kept", 1)))
        self.assertEqual(keeper.edited, (("k",), ("y", "z")))
        self.assertEqual(keeper.wrongs(), ())

    def test_titles(self):
        model = (("a", ("k", "u"), ()), ("a", ("m", "u"), ()))
        keeper = Keeper(TITLED, model)
        keeper.edit(("l", (("a", "m"),)), ("first", (), "in"), STRIKE)
        keeper.go((("a", "k"),))
        self.assertEqual(keeper.write(), ((0, "kept", 1),))
        keeper.come((), 0, model[0])
        self.assertEqual(keeper.write(), ((0, "kept", 3),))

    def test_the_first_line_of_a_way_is_meant(self):
        inner = tuple(("b", (key,), ()) for key in "pq")
        keeper = Keeper(HEADED, (("a", ("k",), inner),))
        keeper.edit(("h", (("a", "k"),)), WHOLE, STRIKE)
        keeper.come((("a", "k"),), 0, ("b", ("n",), ()))
        # The edit remembers p; the line that is meant is that of n now.
        self.assertEqual(keeper.write(), ((0, "astray", 2),))
        self.assertEqual(keeper.edits[0][1], ("h", (("a", "k"),)))
        self.assertEqual(keeper.edited, keeper.text[:2] + keeper.text[3:])

    def test_writings_are_counted(self):
        keeper = Keeper(TOWN, MODEL)
        keeper.write()
        keeper.edit(way("rome", "a"), WHOLE, STRIKE)
        keeper.write()
        keeper.turn(path("rome", "a"), "owner", "x")
        keeper.write()
        keeper.edit(way("rome", "a"), ONLY, STRIKE)
        keeper.go(path("rome"))
        keeper.write()
        keeper.write()
        self.assertEqual(keeper.wrongs(), ((2, 0, "lost"),))
        keeper.drop(0)
        self.assertEqual(keeper.wrongs(), ((2, 0, "lost"),))

    def test_held_against_a_second_keeper(self):
        fates = set()
        for number in range(DRAWN):
            drawing, *programs = drawn_programs(number)
            keeper = Keeper(programs[0], drawn_model(drawing, programs[0]))
            model = keeper.model
            lead(History(drawing, keeper), programs, 25)
            plain = PlainKeeper(programs[0], model, keeper.orders)
            self.assertEqual((keeper.program, keeper.model), (plain.program, plain.model))
            self.assertEqual((keeper.text, keeper.edited), (tuple(plain.lines), plain.edited()))
            self.assertEqual((keeper.edits, keeper.wrongs()), (plain.edits(), tuple(plain.wrongs)))
            self.assertTrue(is_model(keeper.program, keeper.model))
            fates |= {row[1] for row in keeper.write()} | {fate for _, _, fate in keeper.wrongs()}
        self.assertEqual(fates, {"kept", "lost", "gone", "astray"})


class TakenBack(Refusing):
    def lead(self):
        """A keeper, and what it tells ahead of and behind each of its orders."""
        keeper = Keeper(TWICE, (("a", ("k", "u"), ()),))
        seen = [told(keeper)]
        for order in (lambda: keeper.edit(("l", (("a", "k"),)), WHOLE, AHEAD), lambda: keeper.come((), 1, ("a", ("m", "v"), ())),
                      keeper.write, lambda: keeper.turn((("a", "k"),), "x", "w"), lambda: keeper.edit(("m", (("a", "k"),)), WHOLE, STRIKE),
                      lambda: keeper.exchange(WITHOUT), keeper.write, lambda: keeper.drop(0), lambda: keeper.go((("a", "k"),)), keeper.write):
            order()
            seen.append(told(keeper))
        return keeper, seen

    def test_each_order(self):
        keeper, seen = self.lead()
        self.assertEqual(len({row[5] for row in [(*own[:5], str(own[6])) for own in seen]}), len(seen))
        for at in range(len(seen) - 1, 0, -1):
            self.assertEqual(told(keeper), seen[at])
            keeper.undo()
        self.assertEqual(told(keeper), seen[0])
        self.refused(NothingToUndo, keeper, keeper.undo)
        for at in range(1, len(seen)):
            keeper.redo()
            self.assertEqual(told(keeper), seen[at])
        self.refused(NothingToRedo, keeper, keeper.redo)

    def test_to_and_fro(self):
        keeper, seen = self.lead()
        at = len(seen) - 1
        for step in (-3, 2, -4, 1, -2, 5, 1, -10, 10, -7, 3):
            for _ in range(abs(step)):
                keeper.undo() if step < 0 else keeper.redo()
            at += step
            self.assertEqual(told(keeper), seen[at])

    def test_another_order_makes_an_end_to_redoing(self):
        for order in (lambda own: own.write(), lambda own: own.come((), 0, ("a", ("n", "u"), ())),
                      lambda own: own.edit(("l", (("a", "k"),)), WHOLE, STRIKE), lambda own: own.exchange(TWICE)):
            keeper, _ = self.lead()
            for _ in range(6):
                keeper.undo()
            order(keeper)
            self.refused(NothingToRedo, keeper, keeper.redo)
            keeper.undo()
            keeper.redo()

    def test_nothing_at_first(self):
        keeper = Keeper(TOWN, MODEL)
        for error, order in ((NothingToUndo, keeper.undo), (NothingToRedo, keeper.redo)):
            self.assertEqual(self.refused(error, keeper, order).args, ())

    def test_what_is_asked_is_no_order(self):
        keeper, _ = self.lead()
        keeper.undo()
        keeper.wrongs()
        keeper.copy()
        keeper.missing(((("name", "l"), 1),))
        keeper.tried(lambda own: own.write())
        keeper.redo()
        self.assertEqual(len(keeper.orders), 10)


class Trials(Refusing):
    def keeper(self):
        keeper = Keeper(TOWN, MODEL)
        keeper.edit(way("rome", "a"), SKIPPED, STRIKE)
        keeper.go(path("rome", "a"))
        keeper.write()
        keeper.turn(path("pisa", "a"), "owner", "x")
        keeper.undo()
        return keeper

    def orders(self, keeper):
        keeper.come((), 0, town("bari"))
        keeper.edit(way("pisa"), WHOLE, AHEAD)
        keeper.exchange(Program(TOWN.text + " town.key"))
        keeper.write()

    def test_all_is_as_ahead_of_it(self):
        keeper = self.keeper()
        ahead = told(keeper), undone_of(keeper)
        with keeper.trial():
            self.orders(keeper)
            self.assertEqual(len(keeper.orders), 7)
            self.assertEqual(keeper.text[0], ("bari",))
        self.assertEqual((told(keeper), undone_of(keeper)), ahead)
        self.assertEqual(len(ahead[1]), 1)

    def test_kept(self):
        keeper, other = self.keeper(), self.keeper()
        self.orders(other)
        with keeper.trial() as trial:
            self.orders(keeper)
            self.assertIsNone(trial.keep())
        self.assertEqual((told(keeper), undone_of(keeper)), (told(other), []))
        for _ in range(7):
            keeper.undo()
        self.refused(NothingToUndo, keeper, keeper.undo)

    def test_kept_ahead_of_the_orders(self):
        keeper = self.keeper()
        with keeper.trial() as trial:
            trial.keep()
            self.orders(keeper)
        self.assertEqual(len(keeper.orders), 7)

    def test_errors_go_on(self):
        for kept in (False, True):
            for error in (ZeroDivisionError, BadOrder, KeyboardInterrupt):
                keeper = self.keeper()
                ahead = told(keeper), undone_of(keeper)
                with self.assertRaises(error):
                    with keeper.trial() as trial:
                        self.orders(keeper)
                        if kept:
                            trial.keep()
                        if error == BadOrder:
                            keeper.go(())
                        raise error
                self.assertEqual((told(keeper), undone_of(keeper)), ahead)

    def test_an_error_that_does_not_leave_it(self):
        keeper = self.keeper()
        with keeper.trial() as trial:
            trial.keep()
            with self.assertRaises(BadOrder):
                keeper.go(())
            keeper.go(path("rome"))
        self.assertEqual(keeper.orders[-1], ("go", path("rome")))

    def test_undo_and_redo_within(self):
        keeper = self.keeper()
        ahead = told(keeper), undone_of(keeper)
        with keeper.trial():
            keeper.undo()
            keeper.undo()
            self.assertEqual(len(keeper.orders), 1)
            keeper.redo()
            self.assertEqual(keeper.model[0], town("rome", shop("b", "cy")))
            keeper.write()
            with self.assertRaises(NothingToRedo):
                keeper.redo()
        self.assertEqual((told(keeper), undone_of(keeper)), ahead)
        with keeper.trial():
            keeper.redo()
            self.assertEqual(len(keeper.orders), 4)
        self.assertEqual((told(keeper), undone_of(keeper)), ahead)
        with keeper.trial() as trial:
            for _ in range(3):
                keeper.undo()
            trial.keep()
        self.assertEqual(keeper.orders, ())
        self.assertEqual(len(undone_of(keeper)), 4)

    def test_in_one_another(self):
        for outer, inner in itertools.product((False, True), repeat=2):
            keeper = self.keeper()
            first = told(keeper), undone_of(keeper)
            with keeper.trial() as one:
                keeper.go(path("rome"))
                second = told(keeper)
                with keeper.trial() as other:
                    self.assertIsNot(one, other)
                    keeper.go(path("pisa"))
                    third = told(keeper)
                    if inner:
                        other.keep()
                self.assertEqual(told(keeper), third if inner else second)
                if outer:
                    one.keep()
            wanted = ((third if inner else second), []) if outer else first
            self.assertEqual((told(keeper), undone_of(keeper)), wanted)

    def test_one_behind_the_other(self):
        keeper = self.keeper()
        for kept in (True, False, True):
            many = len(keeper.orders)
            with keeper.trial() as trial:
                keeper.write()
                if kept:
                    trial.keep()
            self.assertEqual(len(keeper.orders), many + kept)

    def test_a_trial_begins_with_its_block(self):
        keeper = self.keeper()
        trial = keeper.trial()
        keeper.write()
        ahead = told(keeper)
        with trial:
            keeper.write()
        self.assertEqual(told(keeper), ahead)

    def test_keep_ahead_of_the_block(self):
        keeper = self.keeper()
        ahead = told(keeper), undone_of(keeper)
        trial = keeper.trial()
        trial.keep()
        with trial:
            self.orders(keeper)
        self.assertEqual((told(keeper), undone_of(keeper)), ahead)

    def test_a_trial_that_stands_in_two_statements(self):
        keeper = self.keeper()
        with keeper.trial() as trial:
            keeper.write()
            trial.keep()
        ahead = told(keeper), undone_of(keeper)
        with trial as again:
            self.orders(keeper)
        self.assertEqual((told(keeper), undone_of(keeper)), ahead)
        with again:
            self.orders(keeper)
            again.keep()
        self.assertEqual(len(keeper.orders), len(ahead[0][5]) + 4)

    def test_keep_behind_the_block(self):
        keeper = self.keeper()
        ahead = told(keeper)
        with keeper.trial() as trial:
            self.orders(keeper)
        trial.keep()
        self.assertEqual(told(keeper), ahead)

    def test_tried(self):
        keeper = self.keeper()
        ahead = told(keeper), undone_of(keeper)

        def look(own):
            self.assertIs(own, keeper)
            own.come((), 0, town("bari"))
            return own.write(), own.text

        for keep in (False, 1, "yes", None, [True]):
            self.assertEqual(keeper.tried(look, keep=keep), (((0, "kept", 4),), (("bari",), *keeper.text)))
            self.assertEqual((told(keeper), undone_of(keeper)), ahead)
        self.assertEqual(keeper.tried(look)[0], ((0, "kept", 4),))
        self.assertEqual((told(keeper), undone_of(keeper)), ahead)
        self.assertEqual(keeper.tried(look=look, keep=True)[1], keeper.text)
        self.assertEqual(keeper.orders[-2:], (("come", (), 0, town("bari")), ("write",)))

    def test_tried_with_an_error(self):
        for keep in (False, True):
            keeper = self.keeper()
            ahead = told(keeper), undone_of(keeper)

            def look(own):
                own.write()
                own.go(path("bari"))

            with self.assertRaises(BadOrder):
                keeper.tried(look, keep=keep)
            self.assertEqual((told(keeper), undone_of(keeper)), ahead)

    def test_keep_is_passed_by_name(self):
        with self.assertRaises(TypeError):
            self.keeper().tried(len, True)

    def test_tried_within_a_trial(self):
        keeper = self.keeper()
        ahead = told(keeper), undone_of(keeper)
        with keeper.trial():
            keeper.tried(lambda own: own.tried(lambda one: one.go(path("rome")), keep=True), keep=True)
            self.assertEqual(keeper.orders[-1], ("go", path("rome")))
        self.assertEqual((told(keeper), undone_of(keeper)), ahead)


class Copies(unittest.TestCase):
    def test_all_that_it_has(self):
        keeper = Trials().keeper()
        twin = keeper.copy()
        self.assertIsNot(twin, keeper)
        self.assertIsInstance(twin, Keeper)
        self.assertEqual((told(twin), undone_of(twin)), (told(keeper), undone_of(keeper)))
        twin.undo()
        twin.redo()
        twin.redo()
        self.assertEqual(len(twin.orders), 4)

    def test_each_goes_on_by_itself(self):
        keeper = Trials().keeper()
        ahead = told(keeper), undone_of(keeper)
        twin = keeper.copy()
        twin.edit(way("pisa"), WHOLE, STRIKE)
        twin.write()
        self.assertEqual((told(keeper), undone_of(keeper)), ahead)
        behind = told(twin), undone_of(twin)
        keeper.redo()
        keeper.go(path("pisa"))
        for _ in range(5):
            keeper.undo()
        self.assertEqual((told(twin), undone_of(twin)), behind)

    def test_copies_in_a_trial(self):
        keeper = Trials().keeper()
        with keeper.trial():
            keeper.write()
            twin = keeper.copy()
        self.assertEqual((len(keeper.orders), len(twin.orders)), (3, 4))
        with twin.trial():
            keeper.write()
        self.assertEqual(keeper, twin)


class Equal(unittest.TestCase):
    def test_equal_keepers(self):
        other = Program(TOWN.text)
        self.assertTrue(Keeper(TOWN, MODEL) == Keeper(other, tuple(MODEL)))
        self.assertFalse(Keeper(TOWN, MODEL) != Keeper(other, tuple(MODEL)))
        keepers = [Keeper(program, MODEL) for program in (TOWN, other)]
        for keeper in keepers:
            keeper.exchange(Program(TOWN.text + " town.key"))
            keeper.edit(way("rome"), WHOLE, AHEAD)
        self.assertEqual(*keepers)
        # What was taken back is no order.
        keepers[0].write()
        self.assertNotEqual(*keepers)
        keepers[0].undo()
        self.assertEqual(*keepers)

    def test_keepers_that_are_not(self):
        more = Program(TOWN.text + " town.key")
        ways = [Keeper(TOWN), Keeper(TOWN, MODEL), Keeper(more), Keeper(more, MODEL)]
        keeper = Keeper(TOWN, MODEL)
        keeper.exchange(more)
        ways.append(keeper.copy())
        keeper.write()
        ways.append(keeper)
        for one, other in itertools.combinations(ways, 2):
            self.assertFalse(one == other)
            self.assertTrue(one != other)
        # The same model in the end, by other orders.
        one, other = Keeper(TOWN), Keeper(TOWN)
        one.come((), 0, MODEL[0])
        one.come((), 1, MODEL[1])
        other.come((), 0, MODEL[1])
        other.come((), 0, MODEL[0])
        self.assertEqual(one.model, other.model)
        self.assertNotEqual(one, other)

    def test_nothing_else_is_equal(self):
        keeper = Keeper(TOWN)
        for value in [*ODD_VALUES, *nested(30), TOWN, TOWN.text, keeper.journal, keeper.orders]:
            self.assertFalse(keeper == value)
            self.assertTrue(keeper != value)


class Kept(unittest.TestCase):
    def test_arguments_stay_as_they_are(self):
        keeper = Keeper(TOWN, MODEL)
        values = [(), [], {"a": [1]}, [[("town", "rome")]], ["x"], {}, None, 0]
        kept = copy.deepcopy(values)
        for one, two, three in itertools.product(values, repeat=3):
            for order in (lambda: keeper.come(one, two, three), lambda: keeper.turn(one, two, three), lambda: keeper.go(one),
                          lambda: keeper.edit(one, two, three), lambda: keeper.drop(one), lambda: keeper.missing(one)):
                with self.assertRaises(KeptError):
                    order()
        self.assertEqual(values, kept)
        self.assertEqual(told(keeper), told(Keeper(TOWN, MODEL)))

    def test_equal_keepers_answer_alike(self):
        keepers = [Trials().keeper() for _ in range(2)]
        self.assertEqual(told(keepers[0]), told(keepers[1]))
        self.assertEqual([keeper.write() for keeper in keepers], [keepers[0].copy().write()] * 2)


if __name__ == "__main__":
    unittest.main()
