import copy
import itertools
import unittest

from handkept.applied import carried, edited
from handkept.edits import fate
from handkept.errors import BadEdits, BadModel, BadPrograms, BadSheet, Clash, NoChange, NotMade
from handkept.models import written
from handkept.programs import Program

from tests.questions import KEYS, TITLED, TOWN, TWICE, WITHOUT, one_kind
from tests.samples import ODD_VALUES, nested

WHOLE, SKIPPED = ("first", (), ""), ("first", (1,), "")
AHEAD, BEHIND, INSTEAD, STRIKE = ("ahead", ("x",)), ("behind", ("y", "z")), ("instead", ("w",)), ("strike",)
SHEET = (("come", "shop"), ("go", "shop"), ("turn", "shop", "owner"))


def shop(key, owner):
    return ("shop", (key, owner), ())


MODEL = (("town", ("rome",), (shop("a", "bo"), shop("b", "cy"))), ("town", ("pisa",), (shop("a", "di"),)))
LINES = (("rome",), ("a", "bo"), ("b", "cy"), ("pisa",), ("a", "di"))
ROME, PISA = ("t", (("town", "rome"),)), ("t", (("town", "pisa"),))
SHOPS = [("s", (("town", town), ("shop", key))) for town, key in (("rome", "a"), ("rome", "b"), ("pisa", "a"))]

WORDS = (("x",), ("x", "y", "z", "u", "v", "w"), ("abcdefgh",), ("t", "t"))
NO_WORDS = ((), ("x",) * 7, ["x"], "x", None, ("",), ("X",), ("abcdefghi",), ("x", None), ("x y",), ("x", ("y",)), (1,),
            (True,), ("x", ["y"]), {}, {"x": "y"}, ("x1",), ("x-",))


class Edited(unittest.TestCase):
    def test_each_deed(self):
        told = {
            AHEAD: (("rome",), ("x",), ("a", "bo"), ("b", "cy")),
            BEHIND: (("rome",), ("a", "bo"), ("y", "z"), ("b", "cy")),
            INSTEAD: (("rome",), ("w",), ("b", "cy")),
            STRIKE: (("rome",), ("b", "cy")),
        }
        for deed, lines in told.items():
            self.assertEqual(edited(TOWN, MODEL, ((SHOPS[0], WHOLE, deed),)), lines + LINES[3:])

    def test_no_edits(self):
        self.assertEqual(edited(TOWN, MODEL, ()), LINES)
        self.assertEqual(edited(TOWN, (), ()), ())

    def test_all_deeds_at_one_line_in_any_sequence(self):
        deeds = (AHEAD, ("ahead", ("u",)), BEHIND, ("behind", ("v",)), INSTEAD)
        for own in itertools.permutations(deeds):
            edits = tuple((SHOPS[1], WHOLE, deed) for deed in own)
            ahead = tuple(deed[1] for deed in own if deed[0] == "ahead")
            behind = tuple(deed[1] for deed in own if deed[0] == "behind")
            self.assertEqual(edited(TOWN, MODEL, edits), LINES[:2] + ahead + (("w",),) + behind + LINES[3:])
        struck = tuple((SHOPS[1], WHOLE, deed) for deed in (BEHIND, STRIKE, AHEAD))
        self.assertEqual(edited(TOWN, MODEL, struck), LINES[:2] + (("x",), ("y", "z")) + LINES[3:])

    def test_several_lines(self):
        edits = ((PISA, WHOLE, STRIKE), (ROME, WHOLE, AHEAD), (SHOPS[2], WHOLE, BEHIND), (SHOPS[0], WHOLE, INSTEAD),
                 (ROME, WHOLE, BEHIND), (SHOPS[1], WHOLE, STRIKE), (ROME, ("only", (), ""), ("ahead", ("u",))),
                 (SHOPS[2], WHOLE, INSTEAD))
        self.assertEqual(edited(TOWN, MODEL, edits),
                         (("x",), ("u",), ("rome",), ("y", "z"), ("w",), ("w",), ("y", "z")))

    def test_the_first_line_of_a_way(self):
        program = Program("kind a\nkind b in a\npass\n  open b\n    head h a b.key")
        model = (("a", ("k",), (("b", ("p",), ()), ("b", ("q",), ()))),)
        self.assertEqual(edited(program, model, ((("h", (("a", "k"),)), WHOLE, STRIKE),)), (("q",),))

    def test_both_passes(self):
        model = (("a", ("k", "u"), ()), ("a", ("m", "v"), ()))
        edits = ((("m", (("a", "k"),)), WHOLE, INSTEAD), (("l", (("a", "m"),)), WHOLE, STRIKE))
        self.assertEqual(edited(TWICE, model, edits), (("k",), ("w",), ("m", "v")))

    def test_words_that_may_stand(self):
        for words in WORDS:
            for where in ("ahead", "behind", "instead"):
                self.assertIn(words, edited(TOWN, MODEL, ((ROME, WHOLE, (where, words)),)))

    def test_clash(self):
        told = {
            (0, 0): 1, (0, 1, 0): 2, (0, 1, 2, 1): 3, (2, 1, 0, 1, 0): 3, (1, 2, 2, 1): 2,
        }
        for places, number in told.items():
            for deeds in itertools.product((INSTEAD, STRIKE), repeat=len(places)):
                edits = tuple((SHOPS[place], WHOLE, deed) for place, deed in zip(places, deeds))
                with self.assertRaises(Clash) as caught:
                    edited(TOWN, MODEL, edits)
                self.assertEqual(caught.exception.number, number)
        for other in (AHEAD, BEHIND):
            edits = tuple((SHOPS[0], WHOLE, deed) for deed in (other, STRIKE, other, INSTEAD, STRIKE))
            with self.assertRaises(Clash) as caught:
                edited(TOWN, MODEL, edits)
            self.assertEqual(caught.exception.number, 3)

    def test_by_name(self):
        edits = ((ROME, WHOLE, STRIKE),)
        kept = copy.deepcopy((MODEL, edits))
        self.assertEqual(edited(edits=edits, model=MODEL, program=TOWN), LINES[1:])
        self.assertEqual((MODEL, edits), kept)
        self.assertEqual(edited(TOWN, MODEL, edits), edited(TOWN, MODEL, edits))


class WrongEdits(unittest.TestCase):
    def refused(self, error, value, asked):
        with self.assertRaises(error) as caught:
            asked()
        self.assertIs(caught.exception.value, value)

    def refused_by_both(self, edits):
        self.refused(BadEdits, edits, lambda: edited(TOWN, MODEL, edits))
        self.refused(BadEdits, edits, lambda: carried(TOWN, TOWN, (), MODEL, MODEL, edits))

    def test_models(self):
        for value in [*ODD_VALUES, *nested(30), list(MODEL), MODEL + MODEL[:1], (shop("a", "b"),)]:
            if value != ():
                self.refused(BadModel, value, lambda: edited(TOWN, value, None))

    def test_no_tuple_of_edits(self):
        one = (ROME, WHOLE, AHEAD)
        self.assertEqual(len(edited(TOWN, MODEL, (one,) * 8)), 13)
        for value in [*ODD_VALUES, *nested(30), [], [one], (one,) * 9, one, (one, None), (one, list(one)), (one[:2],), ((*one, ()),),
                      (one, ()), {0: one}]:
            if value != ():
                self.refused_by_both(value)

    def test_ways(self):
        for value in [*ODD_VALUES, *nested(30), ("x", ROME[1]), ("town", ROME[1]), list(ROME), ("t", [("town", "rome")]),
                      ("t", (["town", "rome"],)), ("t", (("town",),)), ("t", (("town", "Rome"),)), ("t", None), ("t",), (*ROME, ()),
                      ("t", (("town", "rome", "x"),)), ("t", (("town", ""),)), ("", ())]:
            self.refused_by_both(((ROME, WHOLE, AHEAD), (value, WHOLE, AHEAD)))

    def test_rules(self):
        for value in [*ODD_VALUES, *nested(30), (), ("first", ()), ("last", (), ""), ("first", [], ""), ("first", (6,), ""),
                      ("first", (1, 0), ""), ("first", (), "A"), ("first", (True,), ""), list(WHOLE)]:
            self.refused_by_both(((ROME, value, AHEAD),))

    def test_deeds(self):
        wrong = [(where, words) for where in ("ahead", "behind", "instead") for words in NO_WORDS]
        wrong += [("strike", ("x",)), ("strike", ()), ("strike", None), ["strike"], "strike", ("ahead",), ("Strike",), ("away", ("x",)),
                  ("ahead", ("x",), ("y",)), ["ahead", ("x",)], ("", ("x",)), (("ahead",), ("x",)), (None, ("x",)), ("instead",),
                  (True, ("x",)), ("strike", "strike"), (), ("strikes",)]
        for value in [*ODD_VALUES, *nested(30), *wrong]:
            self.refused_by_both(((ROME, WHOLE, value),))

    def test_not_made(self):
        missing = ("t", (("town", "bari"),))
        shadowed = (SHOPS[2], ("first", (1,), ""), AHEAD)
        for edits, way in ((((ROME, WHOLE, STRIKE), (ROME, WHOLE, STRIKE), (missing, WHOLE, STRIKE)), missing),
                           ((shadowed, (missing, WHOLE, STRIKE)), SHOPS[2]), (((missing, WHOLE, AHEAD), shadowed), missing),
                           (((SHOPS[0], ("only", (1,), ""), AHEAD),), SHOPS[0])):
            self.refused(NotMade, way, lambda: edited(TOWN, MODEL, edits))
            self.refused(NotMade, way, lambda: carried(TOWN, TOWN, (), MODEL, MODEL, edits))

    def test_sequence_of_errors(self):
        missing = ("t", (("town", "bari"),))
        model, change, edits = [MODEL], (("town", ("x",), ()),), ((missing, WHOLE, STRIKE),)
        self.refused(BadModel, model, lambda: edited(TOWN, model, None))
        self.refused(BadEdits, None, lambda: edited(TOWN, MODEL, None))
        with self.assertRaises(BadPrograms) as caught:
            carried(TOWN, KEYS, None, model, model, None)
        self.assertEqual(caught.exception.value, (TOWN, KEYS))
        sheet = [()]
        self.refused(BadSheet, sheet, lambda: carried(TOWN, TOWN, sheet, model, model, None))
        self.refused(BadModel, model, lambda: carried(TOWN, TOWN, (), model, 1, None))
        self.refused(BadModel, model, lambda: carried(TOWN, TOWN, (), MODEL, model, None))
        with self.assertRaises(NoChange) as caught:
            carried(TOWN, TOWN, SHEET, MODEL, change, None)
        self.assertIs(caught.exception.value[0], MODEL)
        self.assertIs(caught.exception.value[1], change)
        self.refused(BadEdits, None, lambda: carried(TOWN, TOWN, (), MODEL, MODEL, None))
        self.refused(NotMade, missing, lambda: carried(TOWN, TOWN, (), MODEL, MODEL, edits))
        with self.assertRaises(NoChange):
            carried(TOWN, TOWN, SHEET, MODEL, change, ())

    def test_labels_are_those_of_elder(self):
        model = (("a", ("k", "u"), ()),)
        way, other = ("l", (("a", "k"),)), ("z", (("a", "k"),))
        more = Program(WITHOUT.text + "\n    line z a.key")
        self.assertEqual(carried(TWICE, more, (), model, model, ((way, WHOLE, STRIKE),)),
                         ((("astray", 1),), (("k", "u"),)))
        edits = ((other, WHOLE, STRIKE),)
        self.refused(BadEdits, edits, lambda: carried(TWICE, more, (), model, model, edits))


class Carried(unittest.TestCase):
    def test_fates_and_lines(self):
        newer = (("town", ("rome",), (shop("c", "eve"), shop("a", "bo"))), ("town", ("pisa",), (shop("a", "cy"),)))
        edits = ((ROME, WHOLE, BEHIND), (SHOPS[0], WHOLE, INSTEAD), (SHOPS[1], WHOLE, STRIKE), (SHOPS[2], WHOLE, AHEAD))
        fates, lines = carried(TOWN, TOWN, SHEET, MODEL, newer, edits)
        self.assertEqual(fates, (("kept", 0), ("kept", 2), ("gone", None), ("lost", None)))
        self.assertEqual(lines, (("rome",), ("y", "z"), ("c", "eve"), ("w",), ("pisa",), ("a", "cy")))

    def test_an_edit_that_goes_astray(self):
        newer = (("town", ("rome",), ()), MODEL[1])
        fates, lines = carried(TOWN, TOWN, SHEET, MODEL, newer, ((SHOPS[0], SKIPPED, AHEAD), (SHOPS[0], SKIPPED, STRIKE)))
        self.assertEqual(fates, (("astray", 2), ("astray", 2)))
        self.assertEqual(lines, (("rome",), ("pisa",), ("x",)))

    def test_the_earlier_one_of_two_counts(self):
        newer = (("town", ("rome",), ()), MODEL[1])
        for deeds in itertools.permutations((INSTEAD, STRIKE, ("instead", ("v",)))):
            edits = ((SHOPS[0], SKIPPED, deeds[0]), (SHOPS[2], WHOLE, deeds[1]), (SHOPS[0], SKIPPED, BEHIND),
                     (SHOPS[2], WHOLE, AHEAD), (SHOPS[2], WHOLE, deeds[2]))
            own = () if deeds[0] == STRIKE else (deeds[0][1],)
            _, lines = carried(TOWN, TOWN, SHEET, MODEL, newer, edits)
            self.assertEqual(lines, (("rome",), ("pisa",), ("x",), *own, ("y", "z")))

    def test_no_edits(self):
        newer = MODEL[:1] + (("town", ("pisa",), ()),)
        self.assertEqual(carried(TOWN, TOWN, SHEET, MODEL, newer, ()), ((), (("rome",), ("a", "bo"), ("b", "cy"), ("pisa",))))

    def test_another_program(self):
        newer = Program(TOWN.text.replace("line s shop.key shop.owner", "line u shop.owner\n    line s town.key shop.key"))
        edits = ((ROME, WHOLE, AHEAD), (SHOPS[0], WHOLE, STRIKE), (SHOPS[1], SKIPPED, STRIKE))
        fates, lines = carried(TOWN, newer, (), MODEL, MODEL, edits)
        self.assertEqual(fates, (("kept", 0), ("lost", None), ("lost", None)))
        self.assertEqual(lines, (("x",), *[words for _, words in written(newer, MODEL)]))

    def test_titles(self):
        model = (("a", ("k", "u"), ()), ("a", ("m", "u"), ()))
        way = ("l", (("a", "m"),))
        edits = ((way, ("first", (), "in"), STRIKE),)
        self.assertEqual(carried(TITLED, TITLED, (("go", "a"),), model, model[1:], edits), ((("kept", 1),), (("in", "m"),)))

    def test_fates_are_those_of_fate(self):
        pool = [(), MODEL, MODEL[1:], (("town", ("rome",), (shop("b", "bo"), shop("a", "cy"))), MODEL[1]),
                (("town", ("rome",), MODEL[0][2][:1]), MODEL[1])]
        sheet = tuple(sorted((("come", "town"), ("go", "town")) + SHEET))
        edits = tuple((way, WHOLE, AHEAD) for way in (ROME, PISA, *SHOPS))
        found = set()
        for newer in pool:
            try:
                fates, _ = carried(TOWN, TOWN, sheet, MODEL, newer, edits)
            except NoChange:
                continue
            told = tuple(fate(TOWN, TOWN, sheet, MODEL, newer, way, rule) for way, rule, _ in edits)
            self.assertEqual(fates, told)
            found.update(fate for fate, _ in fates)
        self.assertEqual(found, {"kept", "gone"})

    def test_by_name(self):
        edits = ((ROME, WHOLE, STRIKE),)
        told = carried(edits=edits, newer_model=MODEL, elder_model=MODEL, sheet=SHEET, newer=TOWN, elder=TOWN)
        self.assertEqual(told, ((("kept", 0),), LINES[1:]))
        self.assertEqual(told, carried(TOWN, TOWN, SHEET, MODEL, MODEL, edits))


class Once(unittest.TestCase):
    def test_a_line_that_stands_twice(self):
        program = one_kind("begin", "  line t p", "end", "  line e p")
        self.assertEqual(edited(program, (), ((("t", ()), WHOLE, STRIKE),)), (("p",),))
        with self.assertRaises(NotMade):
            edited(program, (), ((("e", ()), WHOLE, STRIKE),))


if __name__ == "__main__":
    unittest.main()
