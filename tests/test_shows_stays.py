import unittest

from handkept.stays import shows_stays, stays

from tests.plain_walk import PlainWalk
from tests.questions import (
    ALL, COME, ENDED, FIELDS, GO, KEYS, ONLY, OWNER, QUESTIONS, SHOPS, TITLED, TOWN, TURN, TWICE, WHOLE, WITHOUT)
from tests.samples import ODD_VALUES, nested


def closed_with(question, table, *members):
    """The least closed table with these members and those of a table."""
    walk = PlainWalk(*question[:5])
    found = dict.fromkeys(table)
    waiting = list(members)
    while waiting:
        member = waiting.pop()
        if member not in found:
            found[member] = True
            waiting += walk.behind(member)
    return tuple(sorted(found))


class Told(unittest.TestCase):
    def test_what_stays_tells_is_shown(self):
        for name, (question, _) in QUESTIONS.items():
            self.assertIs(shows_stays(*question, stays(*question)), True, name)

    def test_under_another_word(self):
        for question, outcome in QUESTIONS.values():
            told = stays(*question)
            for word in ("always", "wrong", "", "Always", "none", None, True, ("always",)):
                self.assertIs(shows_stays(*question, (word, *told[1:])), word == told[0])
            self.assertIs(shows_stays(*question, told[1:]), False)
            self.assertIs(shows_stays(*question, (*told, ())), False)

    def test_not_of_another_question(self):
        told = stays(KEYS, KEYS, ALL, "l", WHOLE, "kept")
        self.assertIs(shows_stays(KEYS, KEYS, ALL, "l", ONLY, "kept", told), False)
        told = stays(FIELDS, FIELDS, TURN, "l", WHOLE, "kept")
        self.assertIs(shows_stays(FIELDS, FIELDS, TURN, "l", WHOLE, "true", told), False)
        self.assertIs(shows_stays(FIELDS, FIELDS, COME, "l", WHOLE, "kept", told), False)

    def test_values_of_any_kind(self):
        for question, _ in QUESTIONS.values():
            for value in [*ODD_VALUES, *nested(30), "always", "wrong", ("always",), ("wrong",), ["always", ()]]:
                self.assertIs(shows_stays(*question, value), False)
                self.assertIs(shows_stays(*question, ("always", value)), False)
                self.assertIs(shows_stays(*question, ("always", (value,))), False)


class Tables(unittest.TestCase):
    def setUp(self):
        self.always = [(question, stays(*question)[1]) for question, outcome in QUESTIONS.values()
                       if outcome == "always"]

    def test_a_member_left_out(self):
        for question, table in self.always:
            for at in range(0, len(table), 1 + len(table) // 40):
                value = ("always", table[:at] + table[at + 1:])
                self.assertIs(shows_stays(*question, value), False, table[at])

    def test_one_more_that_is_wrong(self):
        for question, table in self.always:
            elder, newer, _, _, rule, wish = question
            for member in table[:1]:
                bits = member[3][5]
                wrong = [(meant, front) for meant in ("", "fits", "unfit") for front in (0, 1)
                         if self.is_wrong(rule[0], meant, front, wish)]
                home = "open" if PlainWalk(*question[:5]).kind == "" else "past"
                for meant, front in wrong:
                    more = (member[0], (), member[2], (home, True, meant, front, 0, bits))
                    value = ("always", tuple(sorted(table + (more,))))
                    self.assertIs(shows_stays(*question, value), False, more)

    def is_wrong(self, word, meant, front, wish):
        if meant == "fits":
            return front == 1 and (word == "first" or wish == "kept")
        return front == 1 or meant == "unfit" and wish == "kept"

    def test_larger_closed_ones(self):
        larger = 0
        for question, table in self.always:
            for member in table[:20]:
                guess, rows, cells, state = member
                for other in ((guess, rows, cells, (state[0], True, *state[2:])),
                              (guess, rows, cells, (*state[:3], 0 if state[3] else 1, *state[4:])),
                              (guess, (*rows[:-1], (*rows[-1][:4], ())) if rows else (), cells, state)):
                    value = closed_with(question, table, other)
                    wrong = any(row == () and self.is_wrong(question[4][0], state[2], max(state[3:5]), question[5])
                                for _, row, _, state in value)
                    larger += len(value) > len(table) and not wrong
                    self.assertIs(shows_stays(*question, ("always", value)), not wrong, other)
        self.assertGreater(larger, 50)

    def test_more_that_is_not_closed(self):
        table = stays(KEYS, KEYS, GO, "l", ONLY, "kept")[1]
        guess, rows, cells, state = table[0]
        more = (guess, (("", "", (), (), (("a", "A"),)), ("gone", "a", ("", ""), (), ())), cells,
                ("open", True, "fits", 1, 0, ()))
        self.assertNotIn(more, table)
        self.assertIs(shows_stays(KEYS, KEYS, GO, "l", ONLY, "kept", ("always", tuple(sorted(table + (more,))))), False)

    def test_not_ascending(self):
        for question, table in self.always:
            if len(table) > 1:
                for value in (table[::-1], table[1:2] + table[:1] + table[2:], table + table[-1:], table[:1] + table,
                              list(table)):
                    self.assertIs(shows_stays(*question, ("always", value)), False)

    def test_members_that_never_come(self):
        question = (KEYS, KEYS, COME, "l", WHOLE, "kept")
        table = stays(*question)[1]
        guess, first = (("A",), ""), ("", "", (), (), ())
        cells = (((),), ((),))
        for rows, state in (
                # It was made, but its home is not yet there; the used key is one that nothing opened.
                ((first,), ("before", True, "fits", 0, 0, ())),
                (((*first[:4], (("a", "A"),)),), ("past", True, "unfit", 0, 0, ())),
                # The sheet lets none go.
                ((first, ("gone", "a", ("", ""), (), ())), ("before", False, "", 0, 0, ())),
                ((first, ("both", "a", ("", ""), ("", ""), ())), ("past", False, "", 0, 1, ())),
                ((), ("before", False, "", 0, 0, ())), ((), ("past", True, "fits", 0, 0, ()))):
            value = closed_with(question, table, (guess, rows, cells, state))
            wrong = any(row == () and (own[2] == "unfit" or own[3:5] != (0, 0)) for _, row, _, own in value)
            self.assertIs(shows_stays(*question, ("always", value)), not wrong, (rows, state))


class Forms(unittest.TestCase):
    """Each of these is put into a table that is closed without it; of nothing that is put in anything comes."""

    def put(self, question, member):
        table = stays(*question)[1]
        walk = PlainWalk(*question[:5])
        try:
            self.assertEqual(walk.behind(member), [], member)
        except (TypeError, ValueError, KeyError, IndexError, AttributeError):
            pass
        try:
            table = tuple(sorted({*table, member}))
        except TypeError:
            table += (member,)
        return shows_stays(*question, ("always", table))

    def check(self, question, right, wrong):
        for member in right:
            self.assertIs(self.put(question, member), True, member)
        for member in wrong:
            self.assertIs(self.put(question, member), False, member)

    def done(self, guess=(("A",), ""), rows=(), cells=(((),), ((),)), state=("past", True, "fits", 0, 0, ())):
        return (guess, rows, cells, state)

    def test_members_and_guesses(self):
        question = (KEYS, KEYS, ALL, "l", WHOLE, "true")
        done = self.done()
        self.check(question, [done], [
            (), done[:3], (*done, ()), list(done), self.done(guess=("A", "")), self.done(guess=(("A",),)),
            self.done(guess=(("A",), "", "")), self.done(guess=(["A"], "")), self.done(guess=(("B",), "")),
            self.done(guess=(("a",), "")), self.done(guess=(("",), "")), self.done(guess=(("A", "B"), "")),
            self.done(guess=((), "")), self.done(guess=(("A",), "A")), self.done(guess=(("A",), None)),
            self.done(guess=((None,), "")), self.done(guess=((("A",),), "")), self.done(guess=None)])

    def test_guesses_of_several_words(self):
        question = (TOWN, TOWN, (), "s", WHOLE, "kept")
        right = [self.done(guess=(words, "")) for words in (("A", "A"), ("A", "B"))]
        wrong = [self.done(guess=(words, "")) for words in (("B", "A"), ("A", "C"), ("B", "B"), ("A", ""), ("A",), ("p", "A"))]
        self.check(question, right, wrong)
        question = (TOWN, TOWN, (), "s", ("first", (0,), "in"), "kept")
        bits = ("past", True, "fits", 0, 0, (True, False))
        guesses = [(("", "A"), ""), (("", "A"), "A"), (("", "A"), "B"), (("", "A"), "in"), (("", "in"), "A"),
                   (("", "in"), "in")]
        right = [self.done(guess=guess, state=bits) for guess in guesses]
        guesses = [(("", "A"), "C"), (("", "B"), "A"), (("A", "B"), ""), (("", "in"), "B"), (("", ""), ""), (("in", "A"), "")]
        self.check(question, right, [self.done(guess=guess, state=bits) for guess in guesses])

    def test_titles_are_letters_for_records_alone(self):
        question = (ENDED, ENDED, (), "t", ("first", (), "in"), "kept")
        right = [self.done(guess=(("p",), title), state=("open", True, "fits", 0, 0, (True, True))) for title in ("", "in", "p", "q")]
        wrong = [self.done(guess=(("p",), title), state=("open", True, "fits", 0, 0, (True, True))) for title in ("A", "r", "t")]
        # q stands alone in its line, as many words as the label's line has.
        self.check(question, right, wrong)

    def test_states(self):
        question = (KEYS, KEYS, ALL, "l", WHOLE, "true")
        right = [(home, made, "fits", 0, 0, ()) for home in ("before", "past") for made in (True, False)]
        right += [("past", True, meant, 0, 0, ()) for meant in ("", "unfit")]
        wrong = [
            (), right[0][:5], (*right[0], ()), list(right[0]), ("open", True, "fits", 0, 0, ()), ("", True, "fits", 0, 0, ()),
            ("past", 1, "fits", 0, 0, ()), ("past", None, "fits", 0, 0, ()), ("past", True, "fit", 0, 0, ()),
            ("past", True, None, 0, 0, ()), ("past", True, "fits", False, 0, ()), ("past", True, "fits", 0, False, ()),
            ("past", True, "fits", "", 0, ()), ("past", True, "fits", 0, None, ()), ("past", True, "fits", 0, 0, (True,)),
            ("past", True, "fits", 0, 0, []), ("past", True, "fits", 0, 0, None), ("past", True, "fits", 0, 1, ()),
            ("past", True, "unfit", 0, 1, ()), ("past", True, "fits", -1, 0, ()), ("past", True, "fits", 0, -1, ())]
        self.check(question, [self.done(state=state) for state in right], [self.done(state=state) for state in wrong])

    def test_home_of_a_head_of_no_kind(self):
        question = (ENDED, ENDED, GO, "t", WHOLE, "kept")
        self.check(question, [self.done(guess=(("p",), ""), state=("open", True, "fits", 0, 0, ()))],
                   [self.done(guess=(("p",), ""), state=(home, True, "fits", 0, 0, ())) for home in ("past", "before")])

    def test_home_is_open_where_a_record_of_its_kind_is(self):
        question = (TOWN, TOWN, (("turn", "shop", "owner"),), "t", WHOLE, "kept")
        first, state = ("", "", (), (), ()), ("open", False, "", 0, 0, ())
        towns = {"both": (("",), ("",)), "gone": (("",), ()), "come": ((), ("",))}
        for which, words in towns.items():
            member = self.done(rows=(first, (which, "town", *words, ())), state=state)
            table = closed_with(question, stays(*question)[1], member)
            self.assertIs(shows_stays(*question, ("always", table)), which != "come", which)
        # Of the home of a shop none is open while there is a town alone.
        question = (TOWN, TOWN, (), "s", WHOLE, "kept")
        for state, shown in ((state, False), (("past", False, "", 0, 0, ()), True)):
            member = self.done((("A", "B"), ""), (first, ("both", "town", *towns["both"], ())), state=state)
            value = closed_with(question, stays(*question)[1], member)
            self.assertIs(shows_stays(*question, ("always", value)), shown)

    def test_counts(self):
        # What counts is not wrong here: two lines that fit are none that is found.
        question = (KEYS, KEYS, (), "l", ONLY, "true")
        right = [("", 0), ("", 2), ("fits", 0), ("fits", 1), ("unfit", 0), ("unfit", 2)]
        self.check(question, [self.done(state=("past", True, meant, front, 0, ())) for meant, front in right],
                   [self.done(state=("past", True, meant, front, rear, ())) for meant, front, rear in (
                       ("fits", 2, 0), ("unfit", 3, 0), ("", 3, 0), ("", 2, 1), ("unfit", 2, 1), ("fits", 0, 1))])

    def test_bits(self):
        question = (TWICE, WITHOUT, (), "l", ("first", (), "in"), "true")
        for bits in ((True, False, True), (False,) * 3):
            self.assertIs(self.put(question, self.done(cells=(((), ()), ((),)), state=("past", True, "", 0, 0, bits))), True)
        for bits in ((), (True,) * 2, (True,) * 4, (1, 0, 1), (True, None, True), [True] * 3, True):
            self.assertIs(self.put(question, self.done(cells=(((), ()), ((),)), state=("past", True, "", 0, 0, bits))), False)

    def test_cells(self):
        question, outcome = QUESTIONS["a head at the first record"]
        self.assertEqual(outcome, "always")
        right = [(((0,),), ((1,),)), (((1,),), ((1,),))]
        wrong = [(((2,),), ((0,),)), (((-1,),), ((0,),)), (((True,),), ((0,),)), (((0,),), ((0,), (0,))), (((0,),),),
                 (((0,),), ((),)), (((0, 0),), ((0,),)), ((0,), (0,)), ([(0,)], [(0,)]), (((0,),), ((None,),)), (), None,
                 (((0,),), ((0,),), ((0,),)), (((0,),), (([0],),))]
        state = ("open", True, "fits", 0, 0, ())
        self.check(question, [self.done(guess=(("first",), ""), cells=cells, state=state) for cells in right],
                   [self.done(guess=(("first",), ""), cells=cells, state=state) for cells in wrong])


class Rows(unittest.TestCase):
    """The rows of members whose edit was not made while its home is past: nothing comes of these."""

    def put(self, question, rows, guess=(("A",), ""), cells=(((),), ((),))):
        table = stays(*question)[1]
        member = (guess, rows, cells, ("past", False, "", 0, 0, ()))
        try:
            table = tuple(sorted({*table, member}))
        except TypeError:
            table += (member,)
        return shows_stays(*question, ("always", table))

    first = ("", "", (), (), ())
    town = ("both", "town", ("",), ("",), ())
    shop = ("both", "shop", ("", ""), ("", ""), ())

    def test_rows(self):
        # Of an edit that is not made any more nothing comes but records that open: the table is not closed.
        question = (TOWN, TOWN, SHOPS + OWNER, "t", WHOLE, "kept")
        for rows in ((self.first, self.town), (self.first,)):
            self.assertIs(self.put(question, rows), True)

    def test_wrong_rows(self):
        question = (TOWN, TOWN, SHOPS + OWNER, "t", WHOLE, "kept")
        first, town, shop = self.first, self.town, self.shop
        for rows in (
                None, "", 0, [first], (None,), ((),), (first[:4],), ((*first, ()),), (list(first),), (town,),
                (first, first), (first, shop), (first, town, town), (first, town, shop, shop), (first, town, None),
                (("both", "", (), (), ()),), (("", "", ("",), (), ()),), (("", "", (), ("",), ()),),
                (first, ("", *town[1:])), (first, ("Both", *town[1:])), (first, (None, *town[1:])),
                (first, ("both", "village", ("",), ("",), ())), (first, ("both", None, ("",), ("",), ())),
                (first, ("both", ["town"], ("",), ("",), ())),
                # Words of one that is there, and of one that is not.
                (first, ("both", "town", (), ("",), ())), (first, ("both", "town", ("",), (), ())),
                (first, ("gone", "town", ("",), ("",), ())), (first, ("come", "town", ("",), ("",), ())),
                (first, ("gone", "town", (), (), ())), (first, ("come", "town", (), (), ())),
                (first, ("both", "town", ("", ""), ("",), ())), (first, ("both", "town", [""], ("",), ())),
                (first, ("both", "town", (None,), ("",), ())), (first, ("both", "town", "", ("",), ())),
                # A REF that does not last has no class but "".
                (first, ("both", "town", ("A",), ("",), ())), (first, ("both", "town", ("",), ("A",), ())),
                # Rows of records of both stand in such alone.
                (first, ("gone", "town", ("",), (), ()), shop), (first, ("come", "town", (), ("",), ()), shop),
                (first, ("gone", "town", ("",), (), ()), ("come", "shop", (), ("", ""), ())),
                (first, ("come", "town", (), ("",), ()), ("gone", "shop", ("", ""), (), ()))):
            self.assertIs(self.put(question, rows), False, rows)

    def test_rows_whatever_the_sheet_lets(self):
        question = (TOWN, TOWN, (), "t", WHOLE, "kept")
        for rows in ((self.first, ("gone", "town", ("",), (), ()), ("gone", "shop", ("", ""), (), ())),
                     (self.first, ("come", "town", (), ("",), ()), ("come", "shop", (), ("", ""), ())),
                     (self.first, self.town, ("gone", "shop", ("", ""), (), ())),
                     (self.first, self.town, ("come", "shop", (), ("", ""), ()))):
            # A close leaves a row with what is put, too: so put them all.
            table = stays(*question)[1]
            state, cells = ("past", False, "", 0, 0, ()), (((),), ((),))
            members = [((("A",), ""), rows[:many], cells, state) for many in range(1, 4)]
            self.assertIs(shows_stays(*question, ("always", closed_with(question, table, *members))), True, rows)

    def test_used(self):
        question = (TOWN, TOWN, SHOPS + OWNER, "t", WHOLE, "kept")
        town = self.town[:4]
        for used in ((), (("town", "A"),)):
            self.assertIs(self.put(question, ((*self.first[:4], used),)), True, used)
        for used in ((("town", ""),), (("town", "B"),), (("shop", "A"),), (("town", "A"), ("town", "A")), [("town", "A")],
                     (["town", "A"],), (("town",),), (("town", "A", ""),), ("town", "A"), None, ((None, "A"),),
                     ((["town"], "A"),), (("town", ["A"]),), (("town", None),)):
            self.assertIs(self.put(question, ((*self.first[:4], used),)), False, used)
        # Shops have keys of which none is named.
        self.assertIs(self.put(question, (self.first, (*town, (("shop", "A"),)))), False)

    def test_used_of_keys_named_in_one_of_both(self):
        question = (WITHOUT, KEYS, (), "m", WHOLE, "true")
        for used, shown in (((("a", "A"),), True), ((("a", "B"),), False), ((("a", "p"),), False)):
            guess = (("A", "B"), "")
            self.assertIs(self.put(question, ((*self.first[:4], used),), guess), shown)

    def test_lasting_classes(self):
        # x lasts, by the test in the close, in elder alone.
        question = (TITLED, TITLED, (), "l", WHOLE, "true")
        rows = (self.first, ("both", "a", ("", ""), ("", ""), ()))
        self.assertIs(self.put(question, rows, (("A",), "")), True)
        rows = (self.first, ("both", "a", ("", "A"), ("", ""), ()))
        self.assertIs(self.put(question, rows, (("A",), "")), False)
        question, _ = QUESTIONS["a close"]
        for words, shown in ((("", "A"), True), (("", ""), True), (("A", ""), False), (("", "B"), False), (("", "p"), False)):
            rows = (self.first, ("both", "a", words, ("", "A"), ()))
            self.assertIs(self.put(question, rows, (("A",), "")), shown, words)


class WrongOnes(unittest.TestCase):
    elder = (("town", ("rome",), (("shop", ("a", "bo"), ()),)), ("town", ("pisa",), (("shop", ("a", "cy"), ()),)))
    newer = (("town", ("rome",), ()), ("town", ("pisa",), (("shop", ("a", "cy"), ()),)))
    way = ("s", (("town", "rome"), ("shop", "a")))
    rule = ("first", (1,), "")

    def shown(self, *told, sheet=SHOPS, rule=rule, wish="kept"):
        return shows_stays(TOWN, TOWN, sheet, "s", rule, wish, told)

    def test_models_of_any_size_are_shown(self):
        self.assertIs(self.shown("wrong", self.elder, self.newer, self.way, "astray"), True)
        more = tuple(("town", ("t" + letter,), (("shop", ("b", letter), ()),)) for letter in "abcdefgh")
        self.assertIs(self.shown("wrong", more + self.elder, more + self.newer, self.way, "astray"), True)
        self.assertIs(self.shown("wrong", more + self.elder, self.newer, self.way, "astray"), False)
        self.assertIs(self.shown("wrong", self.elder, self.newer, self.way, "astray", wish="true"), True)

    def test_another_fate_way_or_model(self):
        told = ["wrong", self.elder, self.newer, self.way, "astray"]
        shop = self.elder[0][2][0]
        others = {
            0: ["always", "", None, "Wrong"],
            1: [(), self.newer, list(self.elder), self.elder[:1], None, (("town", ("rome", "x"), ()),)],
            2: [(), self.elder, list(self.newer), (("town", ("pisa",), ()), ("town", ("rome",), ())), None,
                (*self.newer, ("shop", ("x", "y"), ()))],
            3: [("s", (("town", "pisa"), ("shop", "a"))), ("t", (("town", "rome"),)), ("s", ()), "s", None,
                ("s", [("town", "rome"), ("shop", "a")]), ["s", self.way[1]], (*self.way, ())],
            4: ["lost", "gone", "kept", "", None, ("astray",), True],
        }
        for place, values in others.items():
            for value in [*values, *ODD_VALUES, shop]:
                other = told[:place] + [value] + told[place + 1:]
                self.assertIs(self.shown(*other), False, (place, value))
        self.assertIs(self.shown(*told[:4]), False)
        self.assertIs(self.shown(*told, ()), False)
        self.assertIs(shows_stays(TOWN, TOWN, SHOPS, "s", self.rule, "kept", told), False)

    def test_no_change_by_the_sheet(self):
        told = ("wrong", self.elder, self.newer, self.way, "astray")
        self.assertIs(self.shown(*told, sheet=(("go", "shop"),)), True)
        self.assertIs(self.shown(*told, sheet=(("come", "shop"),)), False)

    def test_no_edit_that_is_made(self):
        way = ("s", (("town", "pisa"), ("shop", "a")))
        # It would be lost, if it were made: the first shop a is found ahead of it.
        self.assertIs(self.shown("wrong", self.elder, self.newer[:1], way, "lost"), False)

    def test_a_fate_that_is_not_wrong_by_the_wish(self):
        newer = (("town", ("rome",), (("shop", ("a", "di"), ()),)), self.elder[1])
        told = ("wrong", self.elder, newer, self.way, "lost")
        self.assertIs(self.shown(*told, sheet=OWNER, rule=WHOLE), True)
        self.assertIs(self.shown(*told, sheet=OWNER, rule=WHOLE, wish="true"), False)
        for kept in ("kept", "gone"):
            told = ("wrong", self.elder, self.elder, self.way, kept)
            self.assertIs(self.shown(*told, sheet=OWNER, rule=WHOLE), False)

    def test_another_label(self):
        told = ("wrong", self.elder, self.newer, self.way, "astray")
        self.assertIs(shows_stays(TOWN, TOWN, SHOPS, "t", self.rule, "kept", told), False)


if __name__ == "__main__":
    unittest.main()
