import unittest
from unittest import mock

from handkept.errors import BadLabel, TooMany
from handkept.models import written
from handkept.programs import Program
from handkept.twins import shows_twins, twins

from tests.crowds import crowded
from tests.drawn import Drawing
from tests.plain_walk import PlainTwins, table_of
from tests.questions import ENDED, HEADED, KEYS, TOLD, TOWN, one_kind
from tests.samples import ODD_VALUES, nested
from tests.search import many_records, models

DRAWN = 120
LIKE = Program("kind a\n  field x\nkind b\npass\n  begin\n    line top p q\n  open a\n    line l a.key a.x\n    line m a.x\n"
               "  open b\n    line n b.key q\n  end\n    head e - p q")
TESTED = one_kind("cell c 2", "open a", "  if c = 0", "    set c 1", "  else", "    line l a.x", "  if a.x is p",
                  "    line m a.x")
HEADS = Program("kind a\nkind b in a\npass\n  open b\n    head h a a.key")

# A program, a label of it, and how many records the model has for each label, None where there is no such model.
ASKED = {
    "towns": ((TOWN, "t"), {"t": None, "s": None}),
    "shops": ((TOWN, "s"), {"t": None, "s": 4}),
    "records and words": ((LIKE, "l"), {"top": 1, "l": None, "m": None, "n": 2, "e": 1}),
    "one word": ((LIKE, "m"), {"top": None, "l": None, "m": 2, "n": None, "e": None}),
    "words alone": ((LIKE, "top"), {"top": None, "l": 1, "m": None, "n": 1, "e": 0}),
    "another kind": ((LIKE, "n"), {"top": 1, "l": 2, "m": None, "n": None, "e": 1}),
    "a head that comes more often for one way": ((HEADS, "h"), {"h": 3}),
    "heads of several ways": ((HEADED, "h"), {"h": 4, "l": None}),
    "keys in several rows": ((HEADED, "l"), {"h": None, "l": 4}),
    "once for a cell": ((TOLD, "h"), {"top": None, "h": None, "l": None}),
    "tests": ((TESTED, "l"), {"l": 3, "m": 2}),
    "tests of the other one": ((TESTED, "m"), {"l": 2, "m": 2}),
    "begin and end": ((ENDED, "t"), {"t": None, "l": 1, "e": None}),
}


def questions():
    """(program, label) of those that are asked, and of drawn ones."""
    found = [question for question, _ in ASKED.values()]
    for number in range(DRAWN):
        drawing = Drawing(number)
        drawing.draw_kinds()
        program = drawing.program(drawing.chance.choice([1, 2, 2, 3]))
        found.append((program, drawing.chance.choice(program.labels)))
    return found


def has_pair(program, model, label, other):
    lines = [(way[0], words) for way, words in written(program, model)]
    return any(one[0] == label and two[0] == other and one[1] == two[1]
               for at, one in enumerate(lines) for place, two in enumerate(lines) if at != place)


class Told(unittest.TestCase):
    def test_rows(self):
        for name, (question, many) in ASKED.items():
            rows, _ = twins(*question)
            self.assertEqual([row[0] for row in rows], list(question[0].labels), name)
            told = {label: None if model is None else many_records(model, model) for label, model in rows}
            self.assertEqual(told, many, name)

    def test_a_table_in_full(self):
        program = Program("kind a\npass\n  cell c 2\n  open a\n    line l a.key\n  end\n    line m p\n    set c 1")
        told = twins(program, "l")
        members = []
        for word, seen, ended in (("A", (), ()), ("A", ("l",), ("l",)), ("p", (), ("m",)), ("p", ("l",), ("l", "m"))):
            used = (("a", word),) if seen else ()
            members += [((word,), (), ((1,),), ended), ((word,), (("", (), used),), ((0,),), seen)]
            members.append(((word,), (("", (), used), ("a", ("",), ())), ((0,),), seen))
        self.assertEqual(told[1], tuple(sorted(members)))
        self.assertEqual([(label, model and len(model)) for label, model in told[0]], [("l", None), ("m", 1)])

    def test_tables_are_the_least_closed_ones(self):
        walked = 0
        for program, label in questions():
            table = PlainTwins(program, label).table(200)
            if table is not None:
                self.assertEqual(twins(program, label)[1], table, program.text)
                walked += 1
        self.assertGreater(walked, DRAWN // 2)

    def test_held_against_all_small_models(self):
        for program, label in questions():
            try:
                rows, _ = twins(program, label)
            except TooMany:
                continue
            sizes = {}
            for other, model in rows:
                sizes[other] = 99 if model is None else many_records(model, model)
                self.assertTrue(model is None or has_pair(program, model, label, other), (program.text, label, other))
            words = sorted({word for word in program.text.split() if word in ("p", "q")})
            for many in range(3):
                for model in models(program, many, words + ["f", "g"][:max(1, many)]):
                    for other in program.labels:
                        if sizes[other] > many:
                            self.assertFalse(has_pair(program, model, label, other), (program.text, label, other))

    def test_too_many(self):
        # Of each of 3000 guesses come six members and more.
        program = crowded(55, 137)
        with self.assertRaises(TooMany) as caught:
            twins(program, "z")
        self.assertEqual(caught.exception.number, 6000)
        self.assertIs(shows_twins(program, "z", (tuple((label, None) for label in program.labels), ())), False)

    def test_a_table_of_just_so_many(self):
        program, label = LIKE, "l"
        many = len(twins(program, label)[1])
        with mock.patch("handkept.reaching.MOST_MEMBERS", many):
            self.assertEqual(len(twins(program, label)[1]), many)
        with mock.patch("handkept.reaching.MOST_MEMBERS", many - 1):
            with self.assertRaises(TooMany):
                twins(program, label)

    def test_too_many_guesses(self):
        text = "kind a\n  field x\n  field y\npass\n  begin\n"
        text += "\n".join(f"    line l{one} {' '.join(one + other for other in 'abc')}" for one in "abcdef")
        with self.assertRaises(TooMany):
            twins(Program(text + "\n  open a\n    line z a.key a.x a.y"), "z")

    def test_by_name(self):
        told = twins(label="l", program=KEYS)
        self.assertEqual(told, twins(KEYS, "l"))
        self.assertIs(shows_twins(value=told, label="l", program=KEYS), True)


class Shown(unittest.TestCase):
    def test_what_is_told(self):
        for program, label in questions():
            try:
                told = twins(program, label)
            except TooMany:
                continue
            self.assertIs(shows_twins(program, label, told), True)

    def test_other_models_of_any_size(self):
        rows, table = twins(TOWN, "s")
        more = tuple(("town", ("t" + letter,), (("shop", ("b", letter), ()),)) for letter in "abcdefgh")
        self.assertIs(shows_twins(TOWN, "s", ((rows[0], ("s", rows[1][1] + more)), table)), True)
        self.assertIs(shows_twins(TOWN, "s", ((rows[0], ("s", more)), table)), False)
        like = tuple(("town", (key,), (("shop", ("a", "a"), ()),)) for key in ("rome", "pisa", "bari"))
        for many in range(4):
            self.assertIs(shows_twins(TOWN, "s", ((rows[0], ("s", like[:many])), table)), many > 1)

    def test_a_model_that_shows_no_such_pair(self):
        for question, _ in ASKED.values():
            rows, table = twins(*question)
            for at, (label, model) in enumerate(rows):
                for other in ((), *[own for _, own in rows if own is not None]):
                    value = (rows[:at] + ((label, other),) + rows[at + 1:], table)
                    self.assertIs(shows_twins(*question, value), has_pair(question[0], other, question[1], label))

    def test_none_where_the_table_has_the_pair(self):
        found = 0
        for question, _ in ASKED.values():
            rows, table = twins(*question)
            for at, (label, model) in enumerate(rows):
                if model is not None:
                    found += 1
                    value = (rows[:at] + ((label, None),) + rows[at + 1:], table)
                    self.assertIs(shows_twins(*question, value), False)
        self.assertGreater(found, 10)

    def test_a_member_left_out(self):
        for question, _ in ASKED.values():
            rows, table = twins(*question)
            for at in range(0, len(table), 1 + len(table) // 30):
                self.assertIs(shows_twins(*question, (rows, table[:at] + table[at + 1:])), False)

    def test_larger_closed_tables(self):
        question = (LIKE, "m")
        rows, table = twins(*question)
        words, opened, cells, _ = table[0]
        walk = PlainTwins(*question)
        for seen, shown in ((("l",), True), (("e", "l", "l", "n"), True), (("m",), True), (("l", "m"), False),
                            (("m", "m"), True), (("e", "m"), False)):
            more = (words, opened, cells, seen)
            with mock.patch.object(walk, "first", return_value=[*table, more]):
                larger = table_of(walk, 5000)
            self.assertIn(more, larger)
            # Where another label is seen beside it, None stands in its row.
            wrong = any("m" in own[3] and label in own[3] for own in larger for label in ("top", "l", "n", "e"))
            self.assertIs(shows_twins(*question, (rows, larger)), not wrong, seen)
            if not shown:
                self.assertTrue(wrong)

    def test_members_that_are_not_of_the_form(self):
        question = (TOWN, "t")
        rows, table = twins(*question)
        done = next(member for member in table if member[1] == ())
        words, _, cells, seen = done
        first, town = ("", (), ()), ("town", ("",), ())
        ended = [(words, (), cells, other) for other in ((), ("s",), ("t",), ("s", "s"), ("s", "s", "t"))]
        # Of these comes what is put as well; no pair of towns stands there.
        for member in ended:
            shown = not ("t" in member[3] and "s" in member[3])
            self.assertIs(shows_twins(*question, (rows, tuple(sorted({*table, member})))), shown, member)
        seens = [("t", "s"), ("s", "s", "s"), ("a",), ["s"], None, "s", (None,), ("",), (["s"],), ("s", "t", "s")]
        guesses = [("B",), ("",), (), ("A", "A"), "A", ["A"], (None,), None, ("a",), (("A",), "")]
        opens = [None, [first], (None,), ((),), (("", ()),), (list(first),), (town,), (first, first), (first, ("shop", ("", ""), ())),
                 (first, town, town), (first, ("town", ("A",), ())), (first, ("town", (), ())), (first, ("town", ["",], ())),
                 (first, ("town", ("", ""), ())), (first, ("village", ("",), ())), (first, (["town"], ("",), ())),
                 (("", ("",), ()),), (("", (), (("town", "B"),)),), (("", (), (("town", ""),)),), (("", (), (("shop", "A"),)),),
                 (("", (), (("town", "A"), ("town", "A"))),), (("", (), [("town", "A")]),), (("", (), None),),
                 (first, ("town", ("",), (("shop", "A"),)))]
        wrong = [(words, (), cells, other) for other in seens] + [(other, (), cells, seen) for other in guesses]
        wrong += [(words, other, cells, seen) for other in opens]
        wrong += [(words, (), other, seen) for other in ((), ((0,),), ((), ()), [()], None, ([],), (None,))]
        wrong += [done[:3], (*done, ()), list(done), None, ()]
        for member in wrong:
            try:
                larger = tuple(sorted({*table, member}))
            except TypeError:
                larger = (*table, member)
            self.assertIs(shows_twins(*question, (rows, larger)), False, member)

    def closed_with(self, question, table, member):
        walk = PlainTwins(*question)
        with mock.patch.object(walk, "first", return_value=[*table, member]):
            return table_of(walk, 5000)

    def test_seen_is_sorted(self):
        question = (LIKE, "m")
        rows, table = twins(*question)
        words, _, cells, _ = next(member for member in table if member[1] == ())
        for seen, shown in ((("l", "n"), True), (("n", "l"), False), (("l", "l", "n"), True), (("l", "n", "l"), False)):
            larger = self.closed_with(question, table, (words, (), cells, seen))
            self.assertIs(shows_twins(*question, (rows, larger)), shown, seen)

    def test_classes_of_what_lasts(self):
        # The field lasts by the close, the key does not.
        program = Program("kind a\n  field x\npass\n  open a\n    line l a.key p\n  close a\n    line m a.x")
        question = (program, "m")
        rows, table = twins(*question)
        words, cells = ("A",), ((),)
        for own, shown in ((("", "A"), True), (("", ""), True), (("A", ""), False), (("", "B"), False), (("", "p"), False)):
            member = (words, (("", (), ()), ("a", own, ())), cells, ("l",))
            larger = self.closed_with(question, table, member)
            wrong = any({"l", "m"} <= set(seen) for _, _, _, seen in larger)
            self.assertIs(shows_twins(*question, (rows, larger)), shown and not wrong, own)
            member = (words, (("", (), ()), ("a", own, ())), cells, ("m",))
            larger = self.closed_with(question, table, member)
            self.assertIs(shows_twins(*question, (rows, larger)), shown, own)

    def test_used_keys_by_the_form(self):
        # A is named for the keys of both kinds; a stands in none, b in a.
        question = (Program("kind a\nkind b in a\npass\n  open a\n    line l a.key\n  open b\n    line m b.key"), "l")
        rows, table = twins(*question)
        words, cells = ("A",), ((),)
        for names, inner, shown in (
                ((), (), True), ((("a", "A"),), (), True), ((), (("b", "A"),), True), ((("a", "A"),), (("b", "A"),), True),
                ((("b", "A"),), (), False), ((), (("a", "A"),), False), ((("a", "B"),), (), False), ((("a", ""),), (), False),
                ((("c", "A"),), (), False), ((("", "A"),), (), False), ((("a", "A"), ("a", "A")), (), False),
                ((("a", "A", "A"),), (), False), ((("a",),), (), False), (((),), (), False), ((), (("b", "A"), ("b", "A")), False)):
            larger = self.closed_with(question, table, (words, (("", (), names), ("a", ("",), inner)), cells, ()))
            self.assertIs(shows_twins(*question, (rows, larger)), shown, (names, inner))

    def test_cells(self):
        question = (TOLD, "h")
        rows, table = twins(*question)
        done = next(member for member in table if member[1] == ())
        for cells, shown in ((((0,),), True), (((1,),), True), (((2,),), False), (((True,),), False), (((-1,),), False),
                             (((0, 0),), False), (((0,), (0,)), False), (((),), False), ((0,), False)):
            member = (*done[:2], cells, done[3])
            try:
                larger = tuple(sorted([own for own in table if own != member] + [member]))
            except TypeError:
                larger = (*table, member)
            self.assertIs(shows_twins(*question, (rows, larger)), shown, cells)

    def test_true_is_no_worth_of_a_cell(self):
        question = (TOLD, "h")
        rows, table = twins(*question)
        other = tuple((words, opened, tuple(tuple(bool(worth) for worth in own) for own in cells), seen)
                      for words, opened, cells, seen in table)
        self.assertEqual(other, table)
        self.assertIs(shows_twins(*question, (rows, other)), False)

    def test_not_ascending(self):
        rows, table = twins(LIKE, "l")
        for other in (table[::-1], table[1:2] + table[:1] + table[2:], table[:1] + table, table + table[-1:], list(table)):
            self.assertIs(shows_twins(LIKE, "l", (rows, other)), False)

    def test_rows_otherwise(self):
        rows, table = twins(LIKE, "l")
        for other in (rows[::-1], rows[1:], rows[:-1], rows + rows[-1:], list(rows), (), None, rows[:4] + (list(rows[4]),),
                      rows[:4] + ((*rows[4], ()),), rows[:4] + (rows[4][:1],), rows[:4] + (("", rows[4][1]),),
                      rows[:4] + ((None, rows[4][1]),), (("top", rows[0][1]), ("l", ()), *rows[2:])):
            self.assertIs(shows_twins(LIKE, "l", (other, table)), False)

    def test_values_of_any_kind(self):
        rows, table = twins(LIKE, "l")
        for value in [*ODD_VALUES, *nested(30)]:
            for told in (value, (rows, value), (value, table), (rows, (value,)), (rows, (*table, value)),
                         ((value,) * 5, table), tuple((rows[:1] + (("l", value),) + rows[2:], table)), (rows, table, value)):
                if told != (rows, table):
                    self.assertIs(shows_twins(LIKE, "l", told), False, value)


class WrongInputs(unittest.TestCase):
    def test_labels(self):
        for value in [*ODD_VALUES, *nested(30), "", "x", "L", "a", ("l",), ["l"], "l "]:
            for asked in (lambda: twins(LIKE, value), lambda: shows_twins(LIKE, value, None)):
                with self.assertRaises(BadLabel) as caught:
                    asked()
                self.assertIs(caught.exception.value, value)


if __name__ == "__main__":
    unittest.main()
