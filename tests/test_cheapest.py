import copy
import itertools
import unittest

from handkept.cheapest import cheapest, shows_cheapest
from handkept.errors import BadMarks, BadOffers, BadPrograms, BadRules, BadSheet, BadWish, TooMany
from handkept.marks import with_marks
from handkept.programs import Program
from handkept.stays import shows_stays, stays

from tests.crowds import crowded
from tests.questions import (
    ALL, COME, FIELDS, GO, KEYS, ONLY, OWNER, SHOPS, TITLED, TOWN, TURN, TWICE, WHOLE, WITHOUT, one_kind)
from tests.samples import ODD_VALUES, nested

RULES = (("l", WHOLE),)
BOTH = one_kind("open a", "  line l a.key a.x")
TWO_KINDS = Program("kind a\nkind b\npass\n  open a\n    line l a.key\n  open b\n    line m b.key")
LONG = Program("kind a\n  field x\nkind b in a\npass\n  open b\n    line l a.x p p p p\n    line m b.key")

EXAMPLE = (TOWN, TOWN, SHOPS + OWNER, (("s", WHOLE),),
           ((("key", "s", "town"), 2), (("skip", "s", 1), 1), (("still", "shop", "owner"), 3)), "kept")

KEY, STILL, COMES, GOES = ("key", "l", "a"), ("still", "a", "x"), ("stop", "come", "a"), ("stop", "go", "a")
NAME, SKIP, ALONE, UNDER = ("name", "l"), ("skip", "l", 1), ("only", "l"), ("under", "l", "in")

# What is asked, and the price and the choice that are told, None if there is none.
ASKED = {
    "the example": (EXAMPLE, 3, (("key", "s", "town"), ("skip", "s", 1))),
    "no mark": ((KEYS, KEYS, ALL, RULES, ((COMES, 1),), "kept"), 0, ()),
    "a key": ((FIELDS, FIELDS, COME + GO, RULES, ((KEY, 4), (("skip", "l", 0), 1)), "kept"), 4, (KEY,)),
    "a name": ((TWO_KINDS, TWO_KINDS, (("come", "b"),), RULES, ((NAME, 9),), "kept"), 9, (NAME,)),
    "a skip": ((BOTH, BOTH, ALL, RULES, ((SKIP, 2), (STILL, 3)), "kept"), 2, (SKIP,)),
    "a title": ((TITLED, TITLED, COME + GO, RULES, ((KEY, 5), (UNDER, 4)), "kept"), 4, (UNDER,)),
    "only": ((FIELDS, FIELDS, COME, RULES, ((ALONE, 1), (COMES, 2)), "true"), 1, (ALONE,)),
    "still": ((BOTH, BOTH, ALL, RULES, ((SKIP, 4), (STILL, 3)), "kept"), 3, (STILL,)),
    "none may come": ((FIELDS, FIELDS, COME, RULES, ((COMES, 1), (SKIP, 1)), "kept"), 1, (COMES,)),
    "none may go": ((FIELDS, FIELDS, GO, RULES, ((SKIP, 1), (GOES, 1)), "kept"), 1, (GOES,)),
    "several bars": ((FIELDS, FIELDS, ALL, RULES, ((STILL, 1), (COMES, 1), (GOES, 1)), "kept"), 3, (STILL, COMES, GOES)),
    "all but a bar": ((FIELDS, FIELDS, ALL, (("l", ONLY),), ((STILL, 1), (COMES, 1), (GOES, 1)), "kept"), 2, (STILL, COMES)),
    "like prices": ((BOTH, BOTH, ALL, RULES, ((SKIP, 3), (STILL, 3)), "kept"), 3, (SKIP,)),
    "like prices of one and of two": (
        (FIELDS, FIELDS, COME, RULES, ((KEY, 2), (SKIP, 1), (("skip", "l", 3), 1), (COMES, 2)), "kept"), 2, (KEY,)),
    "more is worse": ((BOTH, BOTH, ALL, (("l", ("first", (0,), "")),), ((SKIP, 1), (STILL, 2)), "true"), None, None),
    "one of two titles": ((TITLED, TITLED, COME + GO, RULES, ((UNDER, 2), (("under", "l", "p"), 1)), "kept"), 2, (UNDER,)),
    "none": ((FIELDS, FIELDS, TURN, RULES, ((NAME, 1), (ALONE, 1)), "kept"), None, None),
    "several labels": (
        (TITLED, TITLED, COME + GO, (("h", WHOLE), ("l", WHOLE)), ((("name", "h"), 2), (UNDER, 3), (KEY, 3)), "kept"),
        3, (KEY,)),
    "several labels of which both go wrong": (
        (TITLED, TITLED, COME, (("h", ("first", (1,), "")), ("l", WHOLE)), ((("only", "h"), 1), (NAME, 2)), "true"),
        None, None),
    "the label is not in newer": ((TWICE, WITHOUT, ALL, RULES, ((KEY, 1), (NAME, 2)), "kept"), 0, ()),
    "a label that newer does not have": (
        (BOTH, WITHOUT, ALL, RULES, ((KEY, 2), (NAME, 3)), "kept"), 2, (KEY,)),
    "a line of six tokens": (
        (LONG, LONG, (("come", "a"), ("come", "b")), RULES, ((("key", "l", "a"), 1), (("key", "l", "b"), 1)), "kept"),
        None, None),
}


ASKED = {name: ((*question[:4], tuple(sorted(question[4])), question[5]), price, choice and tuple(sorted(choice)))
         for name, (question, price, choice) in ASKED.items()}


def in_sequence(question):
    """All (price, choice, question with it), by a search through all sets of offers."""
    elder, newer, sheet, rules, offers, _ = question
    found = []
    for chosen in itertools.product((False, True), repeat=len(offers)):
        marks = [mark for (mark, _), own in zip(offers, chosen) if own]
        price = sum(price for (_, price), own in zip(offers, chosen) if own)
        unders = [mark[1] for mark in marks if mark[0] == "under"]
        lines = [mark for mark in marks if mark[0] in ("key", "name")]
        try:
            told = [with_marks(elder, tuple(lines)),
                    with_marks(newer, tuple(mark for mark in lines if mark[1] in newer.labels))]
        except BadMarks:
            continue
        if len(set(unders)) == len(unders):
            found.append((price, tuple(marks), (*told, *with_choice(sheet, rules, marks))))
    return sorted(found, key=lambda row: row[:2])


def with_choice(sheet, rules, marks):
    bars = [("turn", *mark[1:]) if mark[0] == "still" else mark[1:] for mark in marks]
    changed = []
    for label, (word, skipped, under) in rules:
        own = {mark[0]: mark[2:] for mark in marks if mark[1] == label}
        skips = {mark[2] for mark in marks if mark[:2] == ("skip", label)}
        rule = ("only" if "only" in own else word, tuple(sorted({*skipped, *skips})), own.get("under", (under,))[0])
        changed.append((label, rule))
    return tuple(leave for leave in sheet if leave not in bars), changed


class Told(unittest.TestCase):
    def test_example_of_the_document(self):
        program = Program("\n".join([
            "kind town", "kind shop in town", "  field owner", "pass", "  open town", "    line t town.key",
            "  open shop", "    line s shop.key shop.owner"]))
        sheet = (("come", "shop"), ("go", "shop"), ("turn", "shop", "owner"))
        offers = ((("key", "s", "town"), 2), (("skip", "s", 1), 1), (("still", "shop", "owner"), 3))
        found = cheapest(program, program, sheet, (("s", ("first", (), "")),), offers, "kept")
        self.assertEqual(found[:3], ("choice", 3, (("key", "s", "town"), ("skip", "s", 1))))
        self.assertEqual([(row[0], row[5]) for row in found[4]],
                         [((), "lost"), ((("skip", "s", 1),), "astray"), ((("key", "s", "town"),), "lost")])

    def test_choices_and_prices(self):
        for name, (question, price, choice) in ASKED.items():
            told = cheapest(*question)
            if choice is None:
                self.assertEqual((told[0], len(told)), ("none", 2), name)
            else:
                self.assertEqual(told[:3], ("choice", price, choice), name)

    def test_reasons_and_tables(self):
        for name, (question, _, choice) in ASKED.items():
            told = cheapest(*question)
            reasons = told[-1]
            choices = in_sequence(question)
            self.assertEqual(len(reasons), len(choices) if choice is None else [row[1] for row in choices].index(choice), name)
            for reason, (_, ahead, asked) in zip(reasons, choices):
                elder, newer, sheet, rules = asked
                self.assertEqual(reason[0], ahead, name)
                outcomes = [(label, stays(elder, newer, sheet, label, rule, question[5])) for label, rule in rules]
                wrong = [(label, outcome) for label, outcome in outcomes if outcome[0] == "wrong"]
                self.assertEqual(reason[1:], (wrong[0][0], *wrong[0][1][1:]), name)
            if choice is not None:
                elder, newer, sheet, rules = choices[len(reasons)][2]
                tables = [stays(elder, newer, sheet, label, rule, question[5])[1] for label, rule in rules]
                self.assertEqual(told[3], tuple(tables), name)

    def test_the_first_label_that_goes_wrong(self):
        told = cheapest(*ASKED["several labels of which both go wrong"][0])
        self.assertEqual([reason[:2] for reason in told[1]], [
            ((), "h"), ((("only", "h"),), "l"), ((NAME,), "h"), ((NAME, ("only", "h")), "l")])

    def test_choices_that_are_none(self):
        told = cheapest(*ASKED["a line of six tokens"][0])
        self.assertEqual([reason[0] for reason in told[1]], [(), (("key", "l", "a"),), (("key", "l", "b"),)])
        told = cheapest(*ASKED["one of two titles"][0])
        self.assertEqual([reason[0] for reason in told[4]], [(), (("under", "l", "p"),)])
        question = list(ASKED["none"][0])
        question[4] = ((("under", "l", "in"), 1), (("under", "l", "p"), 1), (("under", "l", "q"), 1))
        self.assertEqual(len(cheapest(*question)[1]), 4)

    def test_more_marks_that_are_worse(self):
        told = cheapest(FIELDS, FIELDS, COME, RULES, ((KEY, 1), (("skip", "l", 1), 1)), "kept")
        self.assertEqual(told[:3], ("choice", 1, (KEY,)))
        worse = cheapest(with_marks(FIELDS, (KEY,)), with_marks(FIELDS, (KEY,)), COME, RULES, ((("skip", "l", 1), 1),), "kept")
        self.assertEqual(worse[:3], ("choice", 0, ()))

    def test_too_many_as_it_comes(self):
        program = crowded(55, 136)
        rules, offers = (("z", WHOLE),), ((("skip", "z", 0), 1),)
        with self.assertRaises(TooMany) as caught:
            cheapest(program, program, (), rules, offers, "kept")
        self.assertEqual(caught.exception.number, 6000)
        self.assertIs(shows_cheapest(program, program, (), rules, offers, "kept", ("choice", 0, (), ((),), ())), False)
        # A label ahead goes wrong: this one is not asked any more.
        question = (program, program, (("come", "a"), ("turn", "a", "x")), (("laaa", ONLY), ("z", WHOLE)), offers)
        self.assertEqual(stays(*question[:3], "laaa", ONLY, "kept")[0], "wrong")
        told = cheapest(*question, "kept")
        self.assertEqual([reason[:2] for reason in told[1]], [((), "laaa"), ((("skip", "z", 0),), "laaa")])

    def test_by_name(self):
        elder, newer, sheet, rules, offers, wish = EXAMPLE
        told = cheapest(wish=wish, offers=offers, rules=rules, sheet=sheet, newer=newer, elder=elder)
        self.assertEqual(told, cheapest(*EXAMPLE))
        self.assertIs(shows_cheapest(value=told, wish=wish, offers=offers, rules=rules, sheet=sheet, newer=newer, elder=elder),
                      True)


class Shown(unittest.TestCase):
    def test_what_is_told(self):
        for name, (question, _, _) in ASKED.items():
            self.assertIs(shows_cheapest(*question, cheapest(*question)), True, name)

    def test_other_prices_choices_tables(self):
        _, price, choice, tables, reasons = told = cheapest(*EXAMPLE)
        self.assertIs(shows_cheapest(*EXAMPLE, told), True)
        for other in (("none", price, choice, tables, reasons), ("choice", 4, choice, tables, reasons),
                      ("choice", "3", choice, tables, reasons), ("choice", price, choice[:1], tables, reasons),
                      ("choice", price, choice[::-1], tables, reasons), ("choice", price, list(choice), tables, reasons),
                      ("choice", price, (choice[0], ("skip", "s", True)), tables, reasons),
                      ("choice", price, (("still", "shop", "owner"),), tables, reasons),
                      ("choice", price, choice, (), reasons), ("choice", price, choice, tables * 2, reasons),
                      ("choice", price, choice, (tables[0][1:],), reasons), ("choice", price, choice, list(tables), reasons),
                      ("choice", price, choice, ((),), reasons), ("choice", price, choice, tables, reasons[:2]),
                      ("choice", price, choice, tables, reasons + reasons[:1]), ("choice", price, choice, tables, ()),
                      ("choice", price, choice, tables, reasons[::-1]), ("choice", price, choice, tables, list(reasons)),
                      ("choice", price, choice, tables), (*told, ()), list(told), ("none", reasons), ("choice", reasons)):
            self.assertIs(shows_cheapest(*EXAMPLE, other), False, other[:3])

    def test_none_otherwise(self):
        for name, (question, price, _) in ASKED.items():
            told = cheapest(*question)
            if price is None:
                for value in (("choice", told[1]), ("", told[1]), (None, told[1]), ("none", told[1], ()), ("none",),
                              ("none", told[1][1:]), ("none", told[1] + told[1][:1]), ("none", ()), list(told),
                              ("choice", 0, (), (), told[1]), ("choice", 0, (), (), told[1] * 2)):
                    self.assertIs(shows_cheapest(*question, value), False, name)

    def test_a_choice_that_stays_but_is_not_the_cheapest(self):
        elder, newer, sheet, rules, offers, wish = EXAMPLE
        table = stays(elder, newer, sheet[:2], "s", ("first", (1,), ""), wish)
        self.assertEqual(table[0], "wrong")
        # There is no reason against the choice ahead of it.
        told = cheapest(*EXAMPLE)
        marked = with_marks(elder, (("key", "s", "town"),))
        table = stays(marked, marked, sheet[:2], "s", WHOLE, wish)[1]
        choice = (("key", "s", "town"), ("still", "shop", "owner"))
        self.assertIs(shows_cheapest(*EXAMPLE, ("choice", 5, choice, (table,), told[4])), False)
        more = told[4] + (((("still", "shop", "owner"),), *told[4][0][1:]), (told[2], *told[4][0][1:]))
        self.assertIs(shows_cheapest(*EXAMPLE, ("choice", 5, choice, (table,), more)), False)

    def test_other_reasons(self):
        told = cheapest(*EXAMPLE)
        for at, reason in enumerate(told[4]):
            for place, values in enumerate(([told[2], None, [], "none"], ["t", "", None, ("s",)], [(), None], [(), None],
                                            [("s", ()), ("t", ()), None], ["kept", "gone", "", None])):
                for value in [*values, *nested(20)]:
                    other = reason[:place] + (value,) + reason[place + 1:]
                    if other != reason:
                        reasons = told[4][:at] + (other,) + told[4][at + 1:]
                        self.assertIs(shows_cheapest(*EXAMPLE, (*told[:4], reasons)), False, (at, place, value))
            for other in (reason[:5], (*reason, ()), list(reason), None, ()):
                reasons = told[4][:at] + (other,) + told[4][at + 1:]
                self.assertIs(shows_cheapest(*EXAMPLE, (*told[:4], reasons)), False)

    def test_other_models_of_any_size_in_a_reason(self):
        told = cheapest(*EXAMPLE)
        more = tuple(("town", ("t" + letter,), (("shop", ("zz", letter), ()),)) for letter in "abcdefgh")
        for at, reason in enumerate(told[4]):
            self.assertNotIn("zz", str(reason))
            other = (*reason[:2], more + reason[2], more + reason[3], *reason[4:])
            reasons = told[4][:at] + (other,) + told[4][at + 1:]
            self.assertIs(shows_cheapest(*EXAMPLE, (*told[:4], reasons)), True)

    def test_another_label_of_rules_in_a_reason(self):
        question, _, _ = ASKED["several labels of which both go wrong"]
        told = cheapest(*question)
        elder, newer, sheet, rules = in_sequence(question)[0][2]
        first = told[1][0]
        label, rule = next(row for row in rules if row[0] != first[1])
        other = stays(elder, newer, sheet, label, rule, "true")
        self.assertEqual(other[0], "wrong")
        self.assertIs(shows_cheapest(*question, ("none", (((), label, *other[1:]), *told[1][1:]))), True)
        self.assertIs(shows_cheapest(*question, ("none", (((), label, *first[2:]), *told[1][1:]))), False)

    def test_reasons_are_right_by_the_changed_programs_and_rules(self):
        # Lost with the field, and not with the field that is skipped.
        elder, newer = (("a", ("k", "u"), ()),), (("a", ("k", "v"), ()),)
        way = ("l", (("a", "k"),))
        question = (BOTH, BOTH, TURN, RULES, ((("name", "l"), 1), (("skip", "l", 0), 1)), "kept")
        told = cheapest(*question)
        self.assertEqual(told[0], "none")
        reasons = tuple((reason[0], "l", elder, newer, way, "lost") for reason in told[1])
        self.assertIs(shows_cheapest(*question, ("none", reasons)), True)
        question = (BOTH, BOTH, TURN, RULES, ((SKIP, 1),), "kept")
        self.assertEqual(cheapest(*question)[:3], ("choice", 1, (SKIP,)))
        reasons = tuple((choice, "l", elder, newer, way, "lost") for choice in ((), (SKIP,)))
        self.assertIs(shows_cheapest(*question, ("none", reasons)), False)
        self.assertIs(shows_stays(BOTH, BOTH, TURN, "l", WHOLE, "kept", ("wrong", *reasons[1][2:])), True)

    def test_values_of_any_kind(self):
        for value in [*ODD_VALUES, *nested(30)]:
            for told in (value, ("none", value), ("choice", value, (), (), ()), ("choice", 0, value, (), ()),
                         ("choice", 0, (), value, ()), ("choice", 0, (), (), value), ("none", (value,)),
                         ("choice", 0, (), (value,), ())):
                self.assertIs(shows_cheapest(*EXAMPLE, told), False, told)


class WrongInputs(unittest.TestCase):
    other = Program("kind a\nkind b\npass\n  open a\n    line l a.key")
    right = (ALL, RULES, ((KEY, 1),), "kept")
    errors = (BadSheet, BadRules, BadOffers, BadWish)

    def refused(self, error, value, *arguments, elder=BOTH, newer=BOTH):
        kept = copy.deepcopy(arguments)
        for asked in (lambda: cheapest(elder, newer, *arguments), lambda: shows_cheapest(elder, newer, *arguments, None)):
            with self.assertRaises(error) as caught:
                asked()
            self.assertEqual(caught.exception.value, value)
        self.assertEqual(arguments, kept)
        return caught.exception.value

    def test_programs_of_other_kinds(self):
        value = self.refused(BadPrograms, (BOTH, self.other), *self.right, newer=self.other)
        self.assertIs(value[1], self.other)

    def test_each_is_told_with_its_very_value(self):
        for value in [*ODD_VALUES, *nested(30), "", [1]]:
            for place, error in enumerate(self.errors):
                arguments = self.right[:place] + (value,) + self.right[place + 1:]
                self.assertIs(self.refused(error, value, *arguments), value)

    def test_rules(self):
        rule = ("l", WHOLE)
        for value in ((), [rule], (rule, rule), (rule, ("l", ONLY)), (("m", WHOLE),), (("l", WHOLE, ""),), (["l", WHOLE],),
                      (("l",),), ("l", WHOLE), (("l", ("first", (6,), "")),), (("l", None),), ((None, WHOLE),),
                      ((["l"], WHOLE),), (rule, None), (None, rule), (("l", list(WHOLE)),), {rule: True}):
            self.refused(BadRules, value, ALL, value, ((KEY, 1),), "kept")
        rules = (("h", WHOLE), ("l", ONLY))
        self.refused(BadRules, rules[::-1], ALL, rules[::-1], ((KEY, 1),), "kept", elder=TITLED, newer=TITLED)
        self.refused(BadRules, rules + rules[1:], ALL, rules + rules[1:], ((KEY, 1),), "kept", elder=TITLED, newer=TITLED)
        self.assertEqual(cheapest(TITLED, TITLED, (), rules, ((KEY, 1),), "kept")[0], "choice")
        # Labels are those of the elder program.
        self.refused(BadRules, (("m", WHOLE),), ALL, (("m", WHOLE),), ((KEY, 1),), "kept", newer=WITHOUT)

    def no_offers(self, value, sheet=ALL, rules=RULES, elder=BOTH, newer=BOTH):
        self.assertIs(self.refused(BadOffers, value, sheet, rules, value, "kept", elder=elder, newer=newer), value)

    def test_how_many_offers(self):
        marks = [("key", "l", "a"), ("name", "l"), ("only", "l"), ("skip", "l", 0), ("skip", "l", 1), ("skip", "l", 2),
                 ("skip", "l", 3)]
        self.no_offers(())
        self.no_offers(tuple((mark, 1) for mark in marks))
        self.assertEqual(cheapest(BOTH, BOTH, (), RULES, tuple((mark, 1) for mark in marks[:6]), "kept")[:3], ("choice", 0, ()))

    def test_prices(self):
        for price in (0, 10, -1, True, False, None, "1", (1,), [1]):
            self.no_offers(((KEY, price),))
        for price in (1, 9):
            self.assertEqual(cheapest(FIELDS, FIELDS, COME, RULES, ((KEY, price),), "kept")[1], price)

    def test_sequence_and_a_mark_twice(self):
        self.no_offers(((SKIP, 1), (KEY, 1)))
        self.no_offers(((KEY, 1), (KEY, 1)))
        self.no_offers(((KEY, 1), (KEY, 2)))
        self.no_offers(((KEY, 2), (KEY, 1)))
        self.no_offers([(KEY, 1)])

    def test_forms(self):
        for mark in (("key", "l"), ("key", "l", "a", ""), ("name", "l", "a"), ("name",), ("skip", "l"), ("skip", "l", 1, 2),
                     ("under", "l"), ("under", "l", "in", "in"), ("only", "l", ""), ("only",), ("still", "a"),
                     ("still", "a", "x", ""), ("stop", "come"), ("stop", "come", "a", ""), ("stop", "a"), ("hide", "l"),
                     ("", "l"), ("turn", "a", "x"), ("come", "a"), list(KEY), None, "key", (), (None, "l"), (["key"], "l", "a"),
                     ("Key", "l", "a"), {"only": "l"}, ("keep", "l", "a")):
            self.no_offers(((mark, 1),))
        for offer in (KEY, (KEY,), (KEY, 1, 1), [KEY, 1], None, "", {KEY: 1}):
            self.no_offers((offer,))

    def test_labels_are_those_of_rules(self):
        for label in ("h", "m", "", None, ["l"], ("l",), True, "a"):
            for mark in (("key", label, "a"), ("name", label), ("skip", label, 0), ("under", label, "in"), ("only", label)):
                self.no_offers(((mark, 1),), elder=TITLED, newer=TITLED)
        self.assertEqual(cheapest(TITLED, TITLED, (), (("h", WHOLE),), ((("name", "h"), 1),), "kept")[:2], ("choice", 0))

    def test_marks_that_are_not_let(self):
        self.no_offers(((("key", "l", "b"), 1),))
        self.no_offers(((("key", "l", "x"), 1),))
        self.no_offers(((("key", "l", None), 1),))
        # In one program alone this cannot stand.
        full = one_kind("open a", "  line l a.x p p p p p")
        ended = one_kind("end", "  line l p")
        self.no_offers(((NAME, 1),), elder=full, newer=BOTH)
        self.no_offers(((NAME, 1),), elder=BOTH, newer=full)
        self.no_offers(((KEY, 1),), elder=ended, newer=BOTH)
        self.no_offers(((KEY, 1),), elder=BOTH, newer=ended)
        self.assertEqual(cheapest(BOTH, WITHOUT, (), RULES, ((KEY, 1),), "kept")[:2], ("choice", 1))

    def test_marks_that_change_nothing(self):
        rules = (("l", ("only", (1, 3), "in")),)
        for mark in (("skip", "l", 1), ("skip", "l", 3), ("under", "l", "in"), ("only", "l")):
            self.no_offers(((mark, 1),), rules=rules)
        for mark in (("skip", "l", 0), ("skip", "l", 5), ("under", "l", "on"), ("name", "l")):
            self.assertEqual(cheapest(BOTH, BOTH, (), rules, ((mark, 1),), "kept")[:2], ("choice", 0), mark)

    def test_wrong_places_and_words(self):
        for place in (-1, 6, True, False, None, "1", (1,), [1]):
            self.no_offers(((("skip", "l", place), 1),))
        for word in ("", "In", "a b", "abcdefghi", None, True, 1, ("in",), ["in"]):
            self.no_offers(((("under", "l", word), 1),))

    def test_bars_of_what_may_not_happen(self):
        for mark, sheet in ((STILL, COME + GO), (COMES, GO + TURN), (GOES, COME + TURN), (("still", "a", "key"), ALL),
                            (("still", "b", "x"), ALL), (("still", "a", "y"), ALL), (("stop", "come", "b"), ALL),
                            (("stop", "turn", "a"), ALL), (("stop", "a", "come"), ALL), (("still", ["a"], "x"), ALL),
                            (("stop", "come", None), ALL)):
            self.no_offers(((mark, 1),), sheet=sheet)

    def test_the_sequence_of_errors(self):
        wrong = [["sheet"], ["rules"], ["offers"], ["wish"]]
        self.refused(BadPrograms, (BOTH, self.other), *wrong, newer=self.other)
        for place, error in enumerate(self.errors):
            self.refused(error, wrong[place], *self.right[:place], *wrong[place:])


if __name__ == "__main__":
    unittest.main()
