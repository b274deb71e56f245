import unittest

from handkept.edits import fate, remembered
from handkept.errors import BadLabel, BadPrograms, BadRule, BadSheet, BadWish, TooMany
from handkept.programs import Program
from handkept.reaching import Reach
from handkept.sheets import is_change
from handkept.stays import EditWalks, shows_stays, stays

from tests.drawn import drawn_question
from tests.plain_walk import PlainWalk
from tests.questions import ALL, COME, FIELDS, KEYS, ONLY, QUESTIONS, SHOPS, OWNER, TOWN, WHOLE, WITHOUT
from tests.samples import ODD_VALUES, nested
from tests.search import many_records, wrong_changes

WRONG = {"kept": ("lost", "astray"), "true": ("astray",)}
DRAWN = 300


def answered(question):
    """What stays tells, None where the table has too many members."""
    try:
        return stays(*question)
    except TooMany:
        return None


class Unjudged(EditWalks):
    """Walks on which nothing is wrong: so a table with wrong members can be held against another one."""

    def is_wanted(self, member):
        return False


def closed_table(question):
    reach = Reach(Unjudged(*question), False)
    reach.go()
    return reach.table()


def pool_for(elder, newer, rule, many):
    """Words that can matter, and as many other ones as records can have by themselves."""
    words = {word for program in (elder, newer) for word in program.text.split() if word in ("p", "q", "in", "first")}
    return sorted(words | {rule[2]} - {""}) + ["f", "g", "h"][:many]


class Example(unittest.TestCase):
    def test_of_the_document(self):
        program = Program("\n".join([
            "kind town", "kind shop in town", "  field owner", "pass", "  open town", "    line t town.key",
            "  open shop", "    line s shop.key shop.owner"]))
        sheet = (("come", "shop"), ("go", "shop"), ("turn", "shop", "owner"))
        whole, skipped = ("first", (), ""), ("first", (1,), "")
        told = [stays(program, program, sheet, "s", rule, "kept") for rule in (whole, skipped)]
        told = [told[0][0], told[0][4], told[1][0], told[1][4], stays(program, program, sheet, "t", whole, "kept")[0]]
        self.assertEqual(told, ["wrong", "lost", "wrong", "astray", "always"])


class Tables(unittest.TestCase):
    def test_a_table_in_full(self):
        told = stays(TOWN, TOWN, SHOPS + OWNER, "t", WHOLE, "kept")
        guess, state, cells = (("A",), ""), ("before", False, "", 0, 0, ()), (((),), ((),))
        first, town = ("", "", (), (), ()), ("both", "town", ("",), ("",), ())
        shops = [("both", "shop", ("", ""), ("", ""), ()), ("come", "shop", (), ("", ""), ()),
                 ("gone", "shop", ("", ""), (), ())]
        rows = [(first,), (first, town), *[(first, town, shop) for shop in shops]]
        self.assertEqual(told, ("always", tuple((guess, row, cells, state) for row in rows)))

    def test_a_table_with_keys_and_titles_in_full(self):
        program = Program("kind a\npass\n  cell c 2\n  open a\n    line l a.key\n    set c 1")
        told = stays(program, program, (("go", "a"),), "l", ("only", (), "in"), "kept")
        # No line ever stands below a title: l has one word, which makes it "", also if this is the word in.
        home = (("", "", (), (), (("a", "A"),)),)
        cells = {number: (((number,),), ((number,),)) for number in (0, 1)}
        gone = {0: ((0,),), 1: ((1,),)}
        self.assertEqual(told[0], "always")
        members = set(told[1])
        bits = (True, True)
        for title in ("", "in"):
            guess = (("A",), title)
            self.assertIn((guess, (("", "", (), (), ()),), cells[0], ("before", False, "", 0, 0, (title == "",) * 2)), members)
        guess = (("A",), "")
        self.assertIn((guess, (*home, ("both", "a", ("",), ("",), ())), cells[1], ("open", True, "fits", 0, 0, bits)), members)
        self.assertIn((guess, home, cells[1], ("past", True, "fits", 0, 0, bits)), members)
        self.assertIn((guess, (), cells[1], ("past", True, "fits", 0, 0, bits)), members)
        self.assertIn((guess, (), ((gone[1]), gone[0]), ("past", True, "", 0, 0, bits)), members)
        self.assertTrue(all(member[0][0] in (("A",), ("in",)) for member in members))

    def test_an_empty_table(self):
        program = Program("kind a\npass\n  begin\n    line t p\n    line s p")
        self.assertEqual(stays(program, program, (), "s", WHOLE, "kept"), ("always", ()))
        self.assertIs(shows_stays(program, program, (), "s", WHOLE, "kept", ("always", ())), True)

    def test_they_are_the_least_closed_ones(self):
        walked = 0
        for number in range(2 * DRAWN):
            question = drawn_question(number)
            table = PlainWalk(*question[:5]).table(150)
            if table is not None:
                walked += 1
                self.assertEqual(closed_table(question), table, number)
                told = stays(*question)
                if told[0] == "always":
                    self.assertEqual(told[1], table, number)
                self.assertIs(shows_stays(*question, ("always", table)), told[0] == "always", number)
        self.assertGreater(walked, DRAWN)

    def test_those_of_the_questions_are(self):
        for name, (question, outcome) in QUESTIONS.items():
            table = PlainWalk(*question[:5]).table(5000)
            self.assertEqual(closed_table(question), table, name)
            if outcome == "always":
                self.assertEqual(stays(*question)[1], table, name)


class Outcomes(unittest.TestCase):
    def test_questions(self):
        for name, (question, outcome) in QUESTIONS.items():
            told = stays(*question)
            if told[0] == "wrong":
                self.assertEqual((told[4], many_records(*told[1:3])), outcome, name)
            else:
                self.assertEqual(told[0], outcome, name)

    def check_wrong(self, question, told):
        elder, newer, sheet, label, rule, wish = question
        _, elder_model, newer_model, way, told_fate = told
        self.assertIs(is_change(elder, sheet, elder_model, newer_model), True)
        self.assertEqual(way[0], label)
        self.assertIsNotNone(remembered(elder, elder_model, way, rule))
        self.assertEqual(fate(elder, newer, sheet, elder_model, newer_model, way, rule)[0], told_fate)
        self.assertIn(told_fate, WRONG[wish])

    def check_small_models(self, question, told):
        """Nothing goes wrong in models of fewer records than those told, or in no small ones."""
        elder, newer, sheet, label, rule, wish = question
        most = 2 if told[0] == "always" else min(2, many_records(*told[1:3]) - 1)
        for many in range(most + 1):
            pool = pool_for(elder, newer, rule, many)
            if (3 * len(pool) ** 2) ** many < 100_000:
                self.assertEqual(wrong_changes(elder, newer, sheet, label, rule, WRONG[wish], many, pool), [], question)

    def test_held_against_all_small_models(self):
        for name, (question, _) in QUESTIONS.items():
            told = stays(*question)
            if told[0] == "wrong":
                self.check_wrong(question, told)
            self.check_small_models(question, told)

    def test_drawn_ones_held_against_all_small_models(self):
        wrong = 0
        for number in range(DRAWN):
            question = drawn_question(number)
            told = answered(question)
            if told is None:
                continue
            if told[0] == "wrong":
                self.check_wrong(question, told)
                wrong += 1
            if number < DRAWN // 2:
                self.check_small_models(question, told)
        self.assertGreater(wrong, DRAWN // 4)


class WrongInputs(unittest.TestCase):
    other = Program("kind a\nkind b\npass\n  open a\n    line l a.key")
    right = (ALL, "l", WHOLE, "kept")
    errors = (BadSheet, BadLabel, BadRule, BadWish)

    def refused(self, error, value, *arguments, newer=KEYS):
        for asked in (lambda: stays(KEYS, newer, *arguments), lambda: shows_stays(KEYS, newer, *arguments, None)):
            with self.assertRaises(error) as caught:
                asked()
            self.assertEqual(caught.exception.value, value)
        return caught.exception.value

    def test_programs_of_other_kinds(self):
        value = self.refused(BadPrograms, (KEYS, self.other), *self.right, newer=self.other)
        self.assertIs(value[1], self.other)

    def test_each_is_told_with_its_very_value(self):
        for value in [*ODD_VALUES, *nested(30)]:
            for place, error in enumerate(self.errors):
                arguments = self.right[:place] + (value,) + self.right[place + 1:]
                self.assertIs(self.refused(error, value, *arguments), value)

    def test_what_is_near_to_right(self):
        for sheet in (ALL[::-1], list(ALL), (("turn", "a", "key"),), (("come", "b"),)):
            self.refused(BadSheet, sheet, sheet, *self.right[1:])
        for label in ("", "m", "L", "a", ("l",), ["l"]):
            self.refused(BadLabel, label, ALL, label, WHOLE, "kept")
        for rule in (("last", (), ""), ("first", (6,), ""), ("first", (True,), ""), ("first", [], ""), ("first", ())):
            self.refused(BadRule, rule, ALL, "l", rule, "kept")
        for wish in ("", "gone", "Kept", "lost", True, ("kept",), ["true"]):
            self.refused(BadWish, wish, ALL, "l", WHOLE, wish)

    def test_labels_are_those_of_the_elder_program(self):
        self.assertEqual(stays(KEYS, WITHOUT, ALL, "l", WHOLE, "true")[0], "always")
        self.refused(BadLabel, "m", ALL, "m", WHOLE, "true", newer=WITHOUT)

    def test_the_sequence_of_errors(self):
        wrong = [["sheet"], ["label"], ["rule"], ["wish"]]
        self.refused(BadPrograms, (KEYS, self.other), *wrong, newer=self.other)
        for place, error in enumerate(self.errors):
            self.refused(error, wrong[place], *self.right[:place], *wrong[place:])

    def test_by_name(self):
        told = stays(wish="kept", rule=WHOLE, label="l", sheet=ALL, newer=KEYS, elder=KEYS)
        self.assertEqual(told, stays(KEYS, KEYS, *self.right))
        shown = shows_stays(value=told, wish="kept", rule=WHOLE, label="l", sheet=ALL, newer=KEYS, elder=KEYS)
        self.assertIs(shown, True)

    def test_equal_calls_return_equal_results(self):
        for question, _ in QUESTIONS.values():
            self.assertEqual(stays(*question), stays(*question))

    def test_sheets_rules_and_models_stay(self):
        sheet, rule = (*COME,), ("first", (0,), "")
        stays(FIELDS, FIELDS, sheet, "l", rule, "kept")
        self.assertEqual((sheet, rule), (COME, ("first", (0,), "")))
        self.assertEqual(ONLY, ("only", (), ""))


if __name__ == "__main__":
    unittest.main()
