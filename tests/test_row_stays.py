import unittest

from handkept.errors import BadLabel, BadPrograms, BadRule, BadSheet, BadWish, TooMany
from handkept.programs import Program
from handkept.rowstays import row_stays, shows_row_stays
from handkept.stays import shows_stays, stays

from tests.crowds import crowded
from tests.questions import ALL, COME, FIELDS, GO, KEYS, LONGER, MOVED, ONLY, TURN, TWICE, WHOLE, WITHOUT, one_kind
from tests.samples import ODD_VALUES, nested

PAIRS = {2: [(0, 0), (0, 1), (1, 1)], 3: [(0, 0), (0, 1), (0, 2), (1, 1), (1, 2), (2, 2)]}

# The same line, and a line of the same words in another place of the program.
SAME = one_kind("open a", "  line l a.key", "  line m q r")


class Rows(unittest.TestCase):
    def test_tables_of_each_pair(self):
        for programs in ((KEYS, KEYS), (KEYS, SAME), (TWICE, MOVED), (TWICE, MOVED, TWICE), (KEYS, TWICE, SAME),
                         (KEYS, KEYS, KEYS)):
            told = row_stays(programs, GO, "l", WHOLE, "kept")
            tables = tuple(stays(programs[i], programs[j], GO, "l", WHOLE, "kept")[1] for i, j in PAIRS[len(programs)])
            self.assertEqual(told, ("always", tables))
            self.assertIs(shows_row_stays(programs, GO, "l", WHOLE, "kept", told), True)

    def test_the_first_pair_that_is_wrong(self):
        for programs, place in (
                ((FIELDS, FIELDS), (0, 0)), ((KEYS, FIELDS), (0, 1)), ((KEYS, LONGER), (0, 1)),
                ((KEYS, KEYS, LONGER), (0, 2)), ((KEYS, LONGER, KEYS), (0, 1)), ((KEYS, SAME, FIELDS), (0, 2)),
                ((FIELDS, KEYS, LONGER), (0, 0))):
            told = row_stays(programs, TURN, "l", WHOLE, "kept")
            self.assertEqual((told[0], told[1:3]), ("wrong", place))
            i, j = place
            self.assertEqual(told[3:], stays(programs[i], programs[j], TURN, "l", WHOLE, "kept")[1:])
            self.assertIs(shows_row_stays(programs, TURN, "l", WHOLE, "kept", told), True)

    def test_a_pair_that_is_wrong_though_neighbours_are_not(self):
        # An edit that was gone in the text of the second one comes home in that of the third one.
        programs = (one_kind("open a", "  line l a.key p"), one_kind("open a", "  if a.key is z", "    line l z p"),
                    one_kind("open a", "  if a.key is z", "    line l z p", "  else", "    line m a.key p"))
        for i, j in ((0, 0), (0, 1), (1, 1), (1, 2), (2, 2)):
            self.assertEqual(stays(programs[i], programs[j], (), "l", WHOLE, "kept")[0], "always", (i, j))
        told = row_stays(programs, (), "l", WHOLE, "kept")
        self.assertEqual((told[:3], told[6]), (("wrong", 0, 2), "astray"))
        self.assertIs(shows_row_stays(programs, (), "l", WHOLE, "kept", told), True)
        self.assertEqual(row_stays(programs[:2], (), "l", WHOLE, "kept")[0], "always")
        self.assertEqual(row_stays(programs[1:], (), "l", WHOLE, "kept")[0], "always")

    def test_by_name(self):
        told = row_stays(wish="kept", rule=WHOLE, label="l", sheet=ALL, programs=(KEYS, KEYS))
        self.assertEqual(told[0], "always")
        self.assertIs(shows_row_stays(value=told, wish="kept", rule=WHOLE, label="l", sheet=ALL, programs=(KEYS, KEYS)), True)


class Shown(unittest.TestCase):
    programs = (KEYS, SAME, FIELDS)
    models = ((("a", ("k", "u"), ()),), (("a", ("k", "u"), ()),), ("l", (("a", "k"),)), "lost")

    def shown(self, value, programs=programs, sheet=COME, wish="kept"):
        return shows_row_stays(programs, sheet, "l", WHOLE, wish, value)

    def test_wrong_ones_of_any_pair(self):
        # Also of one behind the first wrong one; models of any size.
        self.assertEqual(row_stays(self.programs, COME, "l", WHOLE, "kept")[1:3], (0, 2))
        for place in PAIRS[3]:
            told = ("wrong", *place, *self.models)
            self.assertIs(self.shown(told), place in ((0, 2), (1, 2)), place)
        elder = (("a", ("k", "u"), ()),)
        newer = (("a", ("m", "u"), ()), *elder)
        told = ("wrong", 2, 2, elder, newer, ("l", (("a", "k"),)), "astray")
        self.assertIs(self.shown(told), True)
        self.assertIs(shows_stays(FIELDS, FIELDS, COME, "l", WHOLE, "kept", ("wrong", *told[3:])), True)

    def test_other_wrong_ones(self):
        right = ["wrong", 0, 2, *self.models]
        self.assertIs(self.shown(tuple(right)), True)
        self.assertIs(self.shown(right), False)
        self.assertIs(self.shown(tuple(right), wish="true"), False)
        others = {0: ["always", "", None], 1: [1.0, False, -3, 2, "0", None], 2: [0, 1, 3, -1, True, "2", None],
                  3: [(), None], 4: [(), None], 5: [("l", ()), None], 6: ["astray", "gone", None]}
        for place, values in others.items():
            for value in [*values, *nested(30)]:
                told = tuple(right[:place] + [value] + right[place + 1:])
                # Of the pair (0, 0), (0, 1) and such nothing is wrong; (1, 2) is wrong by the same models.
                self.assertIs(self.shown(told), False, (place, value))
        self.assertIs(self.shown(("wrong", 2, 0, *self.models)), False)
        self.assertIs(self.shown(("wrong", True, 2, *self.models)), False)
        self.assertIs(self.shown(("wrong", 1, 2, *self.models)), True)
        self.assertIs(self.shown(tuple(right[:6])), False)
        self.assertIs(self.shown((*right, ())), False)

    def test_places_are_integers(self):
        for places, shown in (((0, 1), True), ((0, True), False), ((False, 1), False), ((False, True), False),
                              ((1, 1), False), ((True, True), False), ((0, 0), False)):
            told = ("wrong", *places, *self.models)
            self.assertIs(self.shown(told, programs=(KEYS, FIELDS)), shown, places)

    def test_tables(self):
        programs = (KEYS, SAME, KEYS)
        tables = row_stays(programs, GO, "l", ONLY, "kept")[1]
        self.assertIs(shows_row_stays(programs, GO, "l", ONLY, "kept", ("always", tables)), True)
        for place in range(6):
            for table in (tables[place][1:], (), None, list(tables[place]), tables[place] + ((),)):
                value = ("always", tables[:place] + (table,) + tables[place + 1:])
                self.assertIs(shows_row_stays(programs, GO, "l", ONLY, "kept", value), False, place)
        for value in (tables[:5], tables + tables[:1], list(tables), (), None):
            self.assertIs(shows_row_stays(programs, GO, "l", ONLY, "kept", ("always", value)), False)
        for value in (("wrong", tables), ("always",), ("always", tables, ()), ["always", tables], tables):
            self.assertIs(shows_row_stays(programs, GO, "l", ONLY, "kept", value), False)
        # Of two programs these are not enough.
        self.assertIs(shows_row_stays(programs[:2], GO, "l", ONLY, "kept", ("always", tables)), False)
        told = ("always", (tables[0], tables[1], tables[3]))
        self.assertIs(shows_row_stays(programs[:2], GO, "l", ONLY, "kept", told), True)

    def test_values_of_any_kind(self):
        for value in [*ODD_VALUES, *nested(30)]:
            for told in (value, ("always", value), ("always", (value,) * 6), ("wrong", value)):
                self.assertIs(self.shown(told), False, told)


class WrongInputs(unittest.TestCase):
    other = Program("kind a\nkind b\npass\n  open a\n    line l a.key")

    def refused(self, error, value, *arguments):
        for asked in (lambda: row_stays(*arguments), lambda: shows_row_stays(*arguments, None)):
            with self.assertRaises(error) as caught:
                asked()
            self.assertIs(caught.exception.value, value)

    def test_programs(self):
        for value in [*ODD_VALUES, *nested(30), (), (KEYS,), (KEYS,) * 4, [KEYS, KEYS], [KEYS] * 3, KEYS, (KEYS, None),
                      (None, KEYS), (KEYS, KEYS, KEYS.text), (KEYS, self.other), (KEYS, KEYS, self.other),
                      (self.other, KEYS, KEYS), (KEYS.text, KEYS.text), ((KEYS,), (KEYS,)), {0: KEYS, 1: KEYS}]:
            self.refused(BadPrograms, value, value, ALL, "l", WHOLE, "kept")

    def test_labels_are_those_of_all(self):
        for programs in ((KEYS, WITHOUT), (WITHOUT, KEYS), (KEYS, KEYS, WITHOUT), (KEYS, WITHOUT, KEYS),
                         (WITHOUT, KEYS, KEYS)):
            label = "".join(["l"])
            self.refused(BadLabel, label, programs, ALL, label, WHOLE, "kept")
        value = ["no label"]
        self.refused(BadLabel, value, (KEYS, KEYS), ALL, value, WHOLE, "kept")

    def test_the_sequence_of_errors(self):
        programs, sheet, label, rule, wish = [KEYS, KEYS], ["sheet"], "m", ["rule"], ["wish"]
        self.refused(BadPrograms, programs, programs, sheet, label, rule, wish)
        programs = (WITHOUT, WITHOUT, KEYS)
        self.refused(BadSheet, sheet, programs, sheet, label, rule, wish)
        self.refused(BadLabel, label, programs, (), label, rule, wish)
        self.refused(BadRule, rule, programs[:2], (), label, rule, wish)
        self.refused(BadWish, wish, programs[:2], (), label, WHOLE, wish)

    def test_too_many(self):
        program = crowded(55, 136)
        with self.assertRaises(TooMany) as caught:
            row_stays((program, program), (), "z", WHOLE, "kept")
        self.assertEqual(caught.exception.number, 6000)
        self.assertIs(shows_row_stays((program, program), (), "z", WHOLE, "kept", ("always", ((), (), ()))), False)


if __name__ == "__main__":
    unittest.main()
