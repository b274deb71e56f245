import copy
import itertools
import unittest

from handkept.errors import BadMarks, BadOffers
from handkept.keeper import Keeper
from handkept.marks import with_marks
from handkept.programs import Program

from tests.histories import History, drawn_model, drawn_programs, lead
from tests.plain_keeper import first_wrong
from tests.questions import KEYS, TITLED, TOWN, TWICE, WITHOUT
from tests.samples import ODD_VALUES, nested

DRAWN = 400
WHOLE, SKIPPED = ("first", (), ""), ("first", (1,), "")
STRIKE = ("strike",)
KEY, NAME, SKIP, ONLY, UNDER = ("key", "s", "town"), ("name", "s"), ("skip", "s", 1), ("only", "s"), ("under", "s", "at")


def shop(key, owner="bo"):
    return ("shop", (key, owner), ())


def town(key, *shops):
    return ("town", (key,), shops)


def path(*keys):
    return tuple(zip(("town", "shop"), keys))


def way(*keys):
    return ("ts"[len(keys) - 1], path(*keys))


MODEL = (town("rome", shop("a"), shop("b", "cy")), town("pisa", shop("a", "di")))


def sorted_offers(*offers):
    return tuple(sorted(offers))


def led(program=TOWN, model=MODEL, rule=WHOLE):
    """A keeper of which the edit is lost as the owner turns, and goes astray as the shop goes, if this is skipped."""
    keeper = Keeper(program, model)
    keeper.edit(way("rome", "a"), rule, STRIKE)
    keeper.turn(path("rome", "a"), "owner", "eve")
    keeper.write()
    keeper.go(path("rome", "a"))
    keeper.write()
    return keeper


def plain_choices(keeper, offers):
    """All (price, choice, first wrong), by a search through all sets of offers."""
    program, model = keeper.began
    found = []
    for chosen in itertools.product((False, True), repeat=len(offers)):
        marks = [mark for (mark, _), own in zip(offers, chosen) if own]
        unders = [mark[1] for mark in marks if mark[0] == "under"]
        try:
            orders = [with_choice(order, marks) for order in keeper.orders]
            first = marked(program, marks)
        except BadMarks:
            continue
        if len(unders) == len(set(unders)):
            price = sum(price for (_, price), own in zip(offers, chosen) if own)
            found.append((price, tuple(marks), first_wrong(first, model, orders)))
    return sorted(found, key=lambda row: row[:2])


def marked(program, marks):
    lines = [mark for mark in marks if mark[0] in ("key", "name") and mark[1] in program.labels]
    return with_marks(program, tuple(lines))


def with_choice(order, marks):
    if order[0] == "exchange":
        return ("exchange", marked(order[1], marks))
    if order[0] != "edit":
        return order
    own = [mark for mark in marks if mark[1] == order[1][0]]
    word, skipped, under = order[2]
    for mark in own:
        word = "only" if mark[0] == "only" else word
        under = mark[2] if mark[0] == "under" else under
        skipped = tuple(sorted({*skipped, mark[2]})) if mark[0] == "skip" else skipped
    return ("edit", order[1], (word, skipped, under), order[3])


def drawn_offers(keeper, chance):
    """Offers that are let, drawn; () if there are none."""
    labels = sorted({order[1][0] for order in keeper.orders if order[0] == "edit"})
    marks = [mark for label in labels for mark in [
        ("name", label), ("only", label), *[("skip", label, place) for place in range(3)],
        *[("under", label, word) for word in ("p", "q")], *[("key", label, kind) for kind, _, _ in keeper.program.kinds]]]
    found, many = [], chance.choice([2, 3, 4])
    for mark in chance.sample(marks, len(marks)):
        try:
            keeper.missing(((mark, 1),))
            found.append((mark, chance.randint(1, 9)))
        except BadOffers:
            pass
        if len(found) == many:
            break
    return tuple(sorted(found))


class Told(unittest.TestCase):
    def test_the_first_choice(self):
        keeper = led()
        offers = sorted_offers((KEY, 2), (SKIP, 1))
        told = keeper.missing(offers)
        self.assertEqual(told, ("choice", 3, (KEY, SKIP), (
            ((), (0, 0, "lost")), ((SKIP,), (1, 0, "astray")), ((KEY,), (0, 0, "lost")))))

    def test_no_marks_are_missing(self):
        keeper = Keeper(TOWN, MODEL)
        keeper.edit(way("rome", "a"), WHOLE, STRIKE)
        self.assertEqual(keeper.missing(((NAME, 5),)), ("choice", 0, (), ()))
        keeper.write()
        self.assertEqual(keeper.missing(((NAME, 5),)), ("choice", 0, (), ()))

    def test_none(self):
        told = led().missing(sorted_offers((NAME, 2), (ONLY, 1)))
        wrong = (0, 0, "lost")
        self.assertEqual(told, ("none", (((), wrong), ((ONLY,), wrong), ((NAME,), wrong), ((NAME, ONLY), wrong))))

    def test_choices_by_price_and_then_as_tuples(self):
        told = led().missing(sorted_offers((NAME, 2), (ONLY, 1), (UNDER, 1)))
        self.assertEqual([choice for choice, _ in told[1]], [
            (), (ONLY,), (UNDER,), (NAME,), (ONLY, UNDER), (NAME, ONLY), (NAME, UNDER), (NAME, ONLY, UNDER)])
        self.assertEqual(led().missing(sorted_offers((KEY, 1), (SKIP, 1)))[:3], ("choice", 2, (KEY, SKIP)))
        self.assertEqual(led().missing(sorted_offers((KEY, 9), (("skip", "s", 0), 1), (SKIP, 9)))[:3], ("choice", 18, (KEY, SKIP)))

    def test_an_edit_that_is_not_made_then(self):
        keeper = Keeper(TOWN, MODEL)
        keeper.write()
        keeper.edit(way("rome", "a"), WHOLE, STRIKE)
        keeper.write()
        keeper.drop(0)
        keeper.edit(way("pisa", "a"), WHOLE, STRIKE)
        keeper.turn(path("pisa", "a"), "owner", "eve")
        keeper.write()
        # With the owner skipped the second edit is not made: another shop a is found.
        told = keeper.missing(sorted_offers((KEY, 1), (SKIP, 1)))
        self.assertEqual(told, ("choice", 2, (KEY, SKIP), (
            ((), (2, 1, "lost")), ((KEY,), (2, 1, "lost")), ((SKIP,), (2, 1, "unmade")))))

    def test_orders_end_at_an_edit_that_is_not_made(self):
        keeper = Keeper(TOWN, MODEL)
        keeper.edit(way("pisa", "a"), WHOLE, STRIKE)
        keeper.turn(path("pisa", "a"), "owner", "eve")
        keeper.write()
        self.assertEqual(keeper.missing(((SKIP, 1),)), ("none", (((), (0, 0, "lost")), ((SKIP,), (0, 0, "unmade")))))

    def test_the_first_wrong_of_several(self):
        keeper = Keeper(TOWN, MODEL)
        for own in (("rome", "b"), ("pisa", "a"), ("rome", "a")):
            keeper.edit(way(*own), WHOLE, STRIKE)
        keeper.turn(path("rome", "a"), "owner", "x")
        keeper.write()
        keeper.turn(path("rome", "b"), "owner", "x")
        keeper.turn(path("pisa", "a"), "owner", "x")
        keeper.write()
        self.assertEqual(keeper.wrongs(), ((0, 2, "lost"), (1, 0, "lost"), (1, 1, "lost"), (1, 2, "lost")))
        self.assertEqual(keeper.missing(((NAME, 1),))[1][0], ((), (0, 2, "lost")))

    def test_marks_in_all_programs_that_have_the_label(self):
        other = Program("kind town\nkind shop in town\n  field owner\npass\n  open town\n    line t town.key\n  open shop\n"
                        "    line u shop.key shop.owner")
        keeper = Keeper(TOWN, MODEL)
        keeper.edit(way("pisa", "a"), WHOLE, STRIKE)
        keeper.go(path("pisa", "a"))
        keeper.exchange(other)
        keeper.write()
        self.assertEqual(keeper.wrongs(), ())
        keeper.come(path("rome"), 0, shop("c"))
        keeper.go(path("rome", "a"))
        keeper.come(path("rome"), 0, shop("a", "di"))
        keeper.write()
        keeper.exchange(TOWN)
        keeper.write()
        self.assertEqual(keeper.wrongs(), ((1, 0, "astray"), (2, 0, "astray")))
        # With the name there is no such line in the program between; with the key of the town there never is.
        self.assertEqual(keeper.missing(((KEY, 3),))[:3], ("choice", 3, (KEY,)))
        told = keeper.missing(((NAME, 3),))
        self.assertEqual(told, ("none", (((), (1, 0, "astray")), ((NAME,), (2, 0, "astray")))))

    def test_an_exchange_amid(self):
        model = (("a", ("k", "u"), ()), ("a", ("m", "v"), ()))
        keeper = Keeper(TWICE, model)
        keeper.edit(("l", (("a", "k"),)), WHOLE, STRIKE)
        keeper.edit(("m", (("a", "m"),)), WHOLE, STRIKE)
        keeper.exchange(WITHOUT)
        keeper.turn((("a", "m"),), "x", "w")
        keeper.write()
        keeper.exchange(TWICE)
        keeper.write()
        self.assertEqual(keeper.wrongs(), ((0, 1, "lost"), (1, 1, "lost")))
        offers = sorted_offers((("skip", "m", 1), 1), (("name", "l"), 1))
        self.assertEqual(keeper.missing(offers)[:3], ("choice", 1, (("skip", "m", 1),)))

    def test_rules_of_the_label_at_which_they_were_made(self):
        # The first edit comes to a line of another label; it was made at l.
        keeper = Keeper(Program("kind a\n  field x\npass\n  open a\n    line l a.x\n    line m a.key"), (("a", ("k", "u"), ()),))
        keeper.edit(("l", (("a", "k"),)), WHOLE, STRIKE)
        keeper.turn((("a", "k"),), "x", "v")
        keeper.come((), 1, ("a", ("u", "w"), ()))
        keeper.write()
        self.assertEqual(keeper.edits[0][1], ("m", (("a", "u"),)))
        with self.assertRaises(BadOffers):
            keeper.missing(((("skip", "m", 0), 1),))
        self.assertEqual(keeper.missing(((("skip", "l", 0), 1),)), ("choice", 1, (("skip", "l", 0),), (((), (0, 0, "astray")),)))

    def test_several_rules_of_one_label(self):
        keeper = Keeper(TOWN, MODEL)
        keeper.edit(way("rome", "a"), SKIPPED, STRIKE)
        keeper.edit(way("rome", "b"), ("only", (0,), "at"), STRIKE)
        for mark in (SKIP, ("skip", "s", 0), ONLY, UNDER, NAME, KEY, ("skip", "s", 5)):
            self.assertEqual(keeper.missing(((mark, 1),))[0], "choice")
        keeper.edit(way("rome", "b"), ("only", (1,), "at"), STRIKE)
        keeper.drop(0)
        # Edits that were dropped count, too.
        self.assertEqual(keeper.missing(((ONLY, 1),))[0], "choice")
        keeper = Keeper(TOWN, MODEL)
        keeper.edit(way("rome", "b"), ("only", (1,), "at"), STRIKE)
        for mark in (SKIP, ONLY, UNDER):
            with self.assertRaises(BadOffers):
                keeper.missing(((mark, 1),))

    def test_edits_that_were_dropped(self):
        keeper = led()
        keeper.drop(0)
        self.assertEqual(keeper.missing(sorted_offers((KEY, 2), (SKIP, 1)))[:3], ("choice", 3, (KEY, SKIP)))
        keeper = Keeper(TOWN, MODEL)
        keeper.edit(way("rome", "a"), WHOLE, STRIKE)
        keeper.drop(0)
        keeper.turn(path("rome", "a"), "owner", "eve")
        keeper.write()
        self.assertEqual(keeper.missing(((SKIP, 1),)), ("choice", 0, (), ()))

    def test_orders_that_were_taken_back_do_not_count(self):
        keeper = led()
        keeper.undo()
        keeper.undo()
        self.assertEqual(keeper.missing(((SKIP, 1),))[:3], ("choice", 1, (SKIP,)))
        for _ in range(3):
            keeper.undo()
        with self.assertRaises(BadOffers):
            keeper.missing(((SKIP, 1),))

    def test_titles(self):
        model = (("a", ("k", "u"), ()), ("a", ("m", "u"), ()))
        keeper = Keeper(TITLED, model)
        keeper.edit(("l", (("a", "k"),)), WHOLE, STRIKE)
        keeper.go((("a", "k"),))
        keeper.write()
        offers = sorted_offers((("under", "l", "in"), 2), (("under", "l", "out"), 1), (("only", "l"), 1))
        self.assertEqual(keeper.missing(offers)[:3], ("choice", 2, (("under", "l", "in"),)))
        self.assertEqual([choice for choice, _ in keeper.missing(offers)[3]], [
            (), (("only", "l"),), (("under", "l", "out"),), (("only", "l"), ("under", "l", "out"))])

    def test_at_most_one_under_for_a_label(self):
        keeper = led()
        offers = sorted_offers((UNDER, 1), (("under", "s", "in"), 1))
        self.assertEqual([choice for choice, _ in keeper.missing(offers)[1]], [(), (UNDER,), (("under", "s", "in"),)])

    def test_choices_by_which_a_program_is_none(self):
        long = Program("kind a\n  field x\npass\n  open a\n    line l a.x p p p p")
        keeper = Keeper(long, (("a", ("k", "u"), ()),))
        keeper.edit(("l", (("a", "k"),)), WHOLE, STRIKE)
        keeper.turn((("a", "k"),), "x", "v")
        keeper.write()
        told = keeper.missing(sorted_offers((("key", "l", "a"), 1), (("name", "l"), 1)))
        self.assertEqual([choice for choice, _ in told[1]], [(), (("key", "l", "a"),), (("name", "l"),)])

    def test_missing_changes_nothing(self):
        keeper = led()
        keeper.undo()
        twin = keeper.copy()
        offers = sorted_offers((KEY, 2), (SKIP, 1))
        kept = copy.deepcopy(offers)
        told = keeper.missing(offers)
        self.assertEqual((keeper, keeper.text, keeper.edits, offers), (twin, twin.text, twin.edits, kept))
        self.assertEqual(keeper.missing(offers=offers), told)
        keeper.redo()

    def test_held_against_a_search(self):
        found = {"choice": 0, "none": 0}
        fates = set()
        for number in range(DRAWN):
            drawing, *programs = drawn_programs(number)
            keeper = Keeper(programs[0], drawn_model(drawing, programs[0]))
            lead(History(drawing, keeper), programs, 14)
            offers = drawn_offers(keeper, drawing.chance)
            if offers:
                told = keeper.missing(offers)
                choices = plain_choices(keeper, offers)
                right = [at for at, row in enumerate(choices) if row[2] is None]
                reasons = tuple(row[1:] for row in choices[:right[0] if right else None])
                wanted = ("choice", *choices[right[0]][:2], reasons) if right else ("none", reasons)
                self.assertEqual(told, wanted, number)
                found[told[0]] += bool(reasons)
                fates |= {wrong[2] for _, wrong in reasons}
        self.assertGreater(min(found.values()), 5)
        self.assertEqual(fates, {"lost", "astray", "unmade"})


class WrongInputs(unittest.TestCase):
    def refused(self, keeper, value):
        with self.assertRaises(BadOffers) as caught:
            keeper.missing(value)
        self.assertIs(caught.exception.value, value)

    def test_values_of_any_kind(self):
        keeper = led()
        for value in [*ODD_VALUES, *nested(30), (), [(SKIP, 1)], ((SKIP, 1), None), (SKIP, 1), ((SKIP, 1, 1),), ((SKIP,),),
                      ([SKIP, 1],), {SKIP: 1}, ((list(SKIP), 1),)]:
            self.refused(keeper, value)
            self.refused(keeper, ((value, 1),))

    def test_prices(self):
        keeper = led()
        for price in (0, 10, -1, True, False, None, "1", (1,), [1], {}, 10 ** 20):
            self.refused(keeper, ((SKIP, price),))
        for price in (1, 9):
            self.assertEqual(keeper.missing(((SKIP, price),))[0], "none")

    def test_how_many_and_in_which_sequence(self):
        keeper = led()
        marks = sorted([KEY, NAME, SKIP, ONLY, UNDER, ("skip", "s", 0), ("skip", "s", 2)])
        self.assertEqual(len(keeper.missing(tuple((mark, 1) for mark in marks[:6]))), 4)
        self.refused(keeper, tuple((mark, 1) for mark in marks))
        self.refused(keeper, ((SKIP, 1), (KEY, 1)))
        self.refused(keeper, ((SKIP, 1), (SKIP, 2)))
        self.refused(keeper, ((SKIP, 1), (SKIP, 1)))

    def test_marks_of_other_sorts(self):
        keeper = led()
        for mark in (("still", "shop", "owner"), ("stop", "come", "shop"), ("stop", "go", "town"), ("skip", "s"), ("skip", "s", 6),
                     ("skip", "s", -1), ("skip", "s", True), ("skip", "s", "1"), ("skip", "s", None), ("only", "s", ""), ("only",),
                     ("under", "s"), ("under", "s", ""), ("under", "s", "At"), ("under", "s", None), ("name", "s", "x"), ("name",),
                     ("key", "s"), ("key", "s", "village"), ("key", "s", None), ("key", "s", ["town"]), ("", "s"), (None, "s"),
                     ("first", "s"), ("key", "s", "town", ""), ("skip", "s", [1]), (["only"], "s"), ("only", ["s"])):
            self.refused(keeper, ((mark, 1),))

    def test_labels_at_which_no_edit_was_made(self):
        keeper = led()
        for mark in (("name", "t"), ("only", "t"), ("skip", "t", 0), ("under", "t", "at"), ("key", "t", "town"), ("only", "x"),
                     ("name", ""), ("only", None)):
            self.refused(keeper, ((mark, 1),))
        self.refused(Keeper(TOWN, MODEL), ((("only", "t"), 1),))

    def test_marks_that_are_not_let(self):
        long = Program("kind a\n  field x\npass\n  open a\n    line l a.key p p p p p")
        short = Program("kind a\n  field x\npass\n  begin\n    line l p")
        model = (("a", ("k", "u"), ()),)
        keeper = Keeper(KEYS, model)
        keeper.edit(("l", (("a", "k"),)), WHOLE, STRIKE)
        self.assertEqual(keeper.missing(((("name", "l"), 1),))[0], "choice")
        self.assertEqual(keeper.missing(((("key", "l", "a"), 1),))[0], "choice")
        keeper.exchange(WITHOUT)
        self.assertEqual(keeper.missing(((("key", "l", "a"), 1),))[0], "choice")
        keeper.exchange(short)
        self.refused(keeper, ((("key", "l", "a"), 1),))
        self.assertEqual(keeper.missing(((("name", "l"), 1),))[0], "choice")
        keeper.exchange(long)
        self.refused(keeper, ((("name", "l"), 1),))
        keeper.undo()
        self.assertEqual(keeper.missing(((("name", "l"), 1),))[0], "choice")


if __name__ == "__main__":
    unittest.main()
