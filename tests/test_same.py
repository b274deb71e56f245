import copy
import itertools
import unittest
from unittest import mock

from handkept.errors import BadPrograms, TooMany
from handkept.marks import with_marks
from handkept.models import is_model
from handkept.programs import Program
from handkept.same import same, shows_same

from tests.drawn import LABELS, Drawing
from tests.events import unlike
from tests.plain_pairs import PlainSame
from tests.plain_walk import table_of
from tests.questions import CLOSED, FIELDS, KEYS, LONGER, MOVED, TOLD, TOWN, TWICE, WITHOUT, one_kind
from tests.samples import ODD_VALUES, nested
from tests.search import many_records, models

DRAWN = 250
KINDS = "kind a\n  field x\nkind b in a\n  field x\nkind c in b\npass\n"


def chained(*lines):
    return Program(KINDS + "\n".join("  " + line for line in lines))


def both(*blocks):
    """Programs of one kind with these statements in its open."""
    return [one_kind("open a", *["  " + line for line in block]) for block in blocks]


BRANCHED = one_kind("open a", "  if a.x is p", "    line l a.key p", "  else", "    line m a.key")
PLAIN = both(["line l a.x a.key"], ["if a.x is p", "  line l p a.key", "else", "  line m a.x a.key"])
SPELLED = both(["if a.x is p", "  line l p q", "else", "  line m a.x"], ["if a.x is p", "  line l a.x q", "else", "  line m a.x"])
TWO_REFS = both(["if a.x is p", "  if a.key is p", "    line l a.x p"], ["if a.x is p", "  if a.key is p", "    line l a.key a.x"])
OTHERS = both(["line l a.x", "line m a.key a.key"], ["line l a.key", "line m a.key a.x"])
CELLS = [one_kind("cell c 2", "open a", "  if c = 0", "    line l p", "  set c 1"),
         one_kind("cell c 3", "open a", "  if c = 0", "    line l p", "  if c = 1", "    set c 2", "  if c = 0", "    set c 1")]
OTHER_CELLS = [CELLS[0], one_kind("cell c 3", "open a", "  if c = 2", "    set c 0", "  if c = 0", "    line l p", "    set c 1",
                                  "  else", "    set c 2")]
AT_CLOSE = [one_kind("close a", "  line l a.x"), one_kind("open a", "  if a.x is p", "    line m q", "close a", "  line l p")]
ELSE = both(["if a.x is p", "  line l p", "else", "  line m q"], ["if a.x is p", "  line l p", "line m q"])
FURTHER = [chained("open a", "  line t a.key", "open c", "  if a.x is p", "    line l c.key", "  line m b.x"),
           chained("open a", "  line t a.key", "open c", "  if b.x is q", "    line l c.key", "  line m b.x")]
NAMED = [Program("kind a\n  field x\nkind b in a\n  field x\npass\n  open a\n    if a.key is p\n      line l a.x\n"
                 f"  open b\n    if b.key is p\n      line m b.x\n    if a.x is q\n      line n {token}") for token in ("b.x", "q")]
OUTER_TOKEN = [chained("open a", "  if a.x is p", "    line t p", "open c", "  if b.x is q", "    line l q a.x", "  line m b.x"),
               chained("open a", "  if a.x is p", "    line t a.x", "open c", "  if b.x is q", "    line l b.x a.x",
                       "    line m q", "  else", "    line n b.x")]
HEADS = [chained("open b", "  head h a a.x", "  line l b.x"), chained("open b", "  line h a.x", "  head l - b.x")]
ONCE = [one_kind("open a", "  line h in now", "  line l a.key"),
        one_kind("cell c 2", "open a", "  if c = 0", "    line h in now", "    set c 1", "  line l a.key")]
ENDED = [one_kind("begin", "  line t p", "end", "  line e q"), one_kind("begin", "  line t q", "end", "  line e q q")]
KEYED = [chained("open b", "  if b.key is p", "    line l p"), chained("open b", "  if b.key is p", "    if a.x is p", "      line l p")]

# Two programs, and how many records the model has for each label of elder, None where there is none.
ASKED = {
    "equal ones": ((TOWN, TOWN), {"t": None, "s": None}),
    "equal texts": ((TOLD, Program(TOLD.text)), {"top": None, "h": None, "l": None}),
    "another token": ((KEYS, FIELDS), {"l": 1}),
    "a token more": ((KEYS, LONGER), {"l": 1}),
    "other tokens": (OTHERS, {"l": 1, "m": 1}),
    "another word": (ENDED, {"t": 0, "e": 0}),
    "a ref in the place of the word that is tested": (SPELLED, {"l": None, "m": None}),
    "refs of which both are tested": (TWO_REFS, {"l": None}),
    "in one branch alone": (PLAIN, {"l": 1}),
    "another test": ((BRANCHED, Program(BRANCHED.text.replace("is p", "is q"))), {"l": 1, "m": 1}),
    "an else": (ELSE, {"l": None, "m": 1}),
    "cells that are other ones": (CELLS, {"l": None}),
    "cells that come again": (OTHER_CELLS, {"l": 3}),
    "a head in the place of a line": (HEADS, {"h": None, "l": None}),
    "another pass": ((TWICE, MOVED), {"l": None, "m": None}),
    "a label that newer does not have": ((TWICE, WITHOUT), {"l": 1, "m": None}),
    "a label that newer alone has": ((WITHOUT, TWICE), {"m": None}),
    "from open to close": ((CLOSED, one_kind("close a", "  line l a.x", "  line m a.x")), {"l": 1, "m": None}),
    "a word in the place of a ref, at a close": (AT_CLOSE, {"l": 1}),
    "a heading that is written once": (ONCE, {"h": 2, "l": None}),
    "tests of records further out": (FURTHER, {"t": None, "l": 3, "m": None}),
    "tokens of records further out": (OUTER_TOKEN, {"t": None, "l": None, "m": 3}),
    "a key that is tested": (KEYED, {"l": 2}),
    "a name behind it": ((KEYS, with_marks(KEYS, (("name", "l"),))), {"l": 1}),
}


def questions():
    """(elder, newer) of those that are asked, and of drawn ones."""
    found = [tuple(question) for question, _ in ASKED.values()]
    for number in range(DRAWN):
        drawing = Drawing(number)
        drawing.draw_kinds()
        elder = drawing.program(drawing.chance.choice([1, 2, 2, 3]))
        found.append((elder, drawing.program(2, drawing.chance.choice([elder.labels + ("z",), LABELS]))))
        found.append((elder, hurt(elder, drawing.chance)))
    return found


def hurt(program, chance):
    """The program with another word at one place."""
    words = program.text.split(" ")
    places = [at for at, word in enumerate(words) if word in ("p", "q")]
    if not places:
        return program
    at = chance.choice(places)
    return Program(" ".join([*words[:at], "q" if words[at] == "p" else "p", *words[at + 1:]]))


def told_unlike(elder, newer, model):
    return unlike((elder, newer), (model, model)) & set(elder.labels)


def closed_with(question, *members):
    """The least closed table with these members."""
    walk = PlainSame(*question)
    with mock.patch.object(walk, "first", return_value=[*walk.first(), *members]):
        return table_of(walk, 5000)


class Told(unittest.TestCase):
    def test_rows(self):
        for name, (question, many) in ASKED.items():
            rows, _ = same(*question)
            self.assertEqual([row[0] for row in rows], list(question[0].labels), name)
            told = {label: None if model is None else many_records(model, model) for label, model in rows}
            self.assertEqual(told, many, name)
            for label, model in rows:
                if model is not None:
                    self.assertTrue(is_model(question[0], model), name)
                    self.assertIn(label, told_unlike(*question, model), name)

    def test_programs_that_are_equal(self):
        for program in (TOWN, TOLD, TWICE, CLOSED, *FURTHER):
            rows, table = same(program, Program(program.text))
            self.assertEqual(rows, tuple((label, None) for label in program.labels))
            self.assertEqual({member[2] for member in table}, {()})

    def test_a_table_in_full(self):
        first, a = ("", (), ()), ("a", ("", ""), ())
        members = [((first,), (0, 0), ()), ((first, a), (0, 1), ()), ((first,), (0, 1), ()), ((), (0, 0), ()), ((), (0, 1), ())]
        members += [(rows, (0, 1), ("h",)) for rows in ((), (first,), (first, a))]
        told = tuple(sorted((rows, ((cells[:0],), ((cells[1],),)), labels) for rows, cells, labels in members))
        self.assertEqual(same(*ONCE)[1], told)

    def test_tokens_last_where_a_word_is_named(self):
        elder, newer = AT_CLOSE
        first, cells = ("", (), ()), (((),), ((),))
        members = [((first, ("a", ("", word), ())), cells, ()) for word in ("", "p")]
        members += [((first, ("a", ("", word), ())), cells, ("l",)) for word in ("", "p")]
        members += [(rows, cells, labels) for rows in ((), (first,)) for labels in ((), ("l",))]
        self.assertEqual(same(elder, newer)[1], tuple(sorted(members)))
        # Where no word is named for it, nothing lasts.
        table = same(elder, one_kind("close a", "  line l p"))[1]
        self.assertEqual({row[1] for member in table for row in member[0][1:]}, {("", "")})

    def test_labels_that_newer_alone_has_stand_in_no_table(self):
        self.assertEqual({member[2] for member in same(WITHOUT, TWICE)[1]}, {()})
        self.assertEqual({member[2] for member in same(TWICE, WITHOUT)[1]}, {(), ("l",)})

    def test_tables_are_the_least_closed_ones(self):
        walked = 0
        for question in questions():
            table = PlainSame(*question).table(500)
            if table is not None:
                self.assertEqual(same(*question)[1], table, [program.text for program in question])
                walked += 1
        self.assertGreater(walked, DRAWN)

    def test_held_against_all_small_models(self):
        for elder, newer in questions():
            try:
                rows, _ = same(elder, newer)
            except TooMany:
                continue
            sizes = {}
            for label, model in rows:
                sizes[label] = 99 if model is None else many_records(model, model)
                self.assertTrue(model is None or label in told_unlike(elder, newer, model), (elder.text, newer.text))
            words = sorted({word for word in (elder.text + " " + newer.text).split() if word in ("p", "q")})
            for many in range(3):
                for model in models(elder, many, words + ["f", "g"]):
                    for label in told_unlike(elder, newer, model):
                        self.assertLessEqual(sizes[label], many, (elder.text, newer.text, label, model))

    def test_words_that_programs_write_are_no_other_words(self):
        # The first words that come to mind are written by newer.
        lines = ["line " + label + " " + label for label in ("aa", "b", "c", "d", "e", "f")]
        elder, newer = both([line.rsplit(" ", 1)[0] + " a.key" for line in lines], [line.replace("aa aa", "aa a") for line in lines])
        for label, model in same(elder, newer)[0]:
            self.assertIn(label, told_unlike(elder, newer, model))

    def test_words_that_programs_test_are_no_other_words(self):
        for word in ("a", "b", "c", "d"):
            elder = one_kind("open a", f"  if a.x is {word}", "    line m p", "  else", "    line l p")
            newer = one_kind("open a", f"  if a.x is {word}", "    line m p", "  else", "    line l q")
            for question in ((elder, newer), (newer, elder)):
                told = same(*question)
                self.assertEqual([label for label, model in told[0] if model is not None], ["l"])
                self.assertIs(shows_same(*question, told), True)

    def test_too_many(self):
        words = [one + other for one in "abc" for other in "abcd"]
        lines = [line for word in words for line in ("    if a.key is " + word, "      line l" + word + " a.x")]
        program = Program("\n".join(["kind a", "  field x", "pass", "  open a", *lines[:12], "  close a", *lines[12:24]]))
        with self.assertRaises(TooMany) as caught:
            same(program, Program(program.text.replace("lab a.x", "lab a.key")))
        self.assertEqual(caught.exception.number, 6000)
        nothing = tuple((label, None) for label in program.labels)
        self.assertIs(shows_same(program, program, (nothing, ())), False)

    def test_a_table_of_just_so_many(self):
        many = len(same(*FURTHER)[1])
        with mock.patch("handkept.reaching.MOST_MEMBERS", many):
            self.assertEqual(len(same(*FURTHER)[1]), many)
        with mock.patch("handkept.reaching.MOST_MEMBERS", many - 1):
            with self.assertRaises(TooMany):
                same(*FURTHER)

    def test_by_name(self):
        told = same(newer=WITHOUT, elder=TWICE)
        self.assertEqual(told, same(TWICE, WITHOUT))
        self.assertIs(shows_same(value=told, newer=WITHOUT, elder=TWICE), True)


class Shown(unittest.TestCase):
    def test_what_is_told(self):
        for question in questions():
            try:
                told = same(*question)
            except TooMany:
                continue
            kept = copy.deepcopy(told)
            self.assertIs(shows_same(*question, told), True)
            self.assertEqual(told, kept)

    def test_other_models_of_any_size(self):
        rows, table = same(*ONCE)
        many = tuple(("a", (one + other, "x"), ()) for one in "abcdefgh" for other in "abcdefgh")
        for model, shown in ((many, True), (many[:2], True), (many[:1], False), ((), False), (list(many), False),
                             (many + many[:1], False), (None, False), (many[:3] + (("b", ("k", "x"), ()),), False)):
            self.assertIs(shows_same(*ONCE, ((("h", model), rows[1]), table)), shown)

    def test_a_model_that_shows_no_such_difference(self):
        for question, _ in ASKED.values():
            rows, table = same(*question)
            for (at, row), model in itertools.product(enumerate(rows), [(), *[own for _, own in rows if own is not None]]):
                value = (rows[:at] + ((row[0], model),) + rows[at + 1:], table)
                self.assertIs(shows_same(*question, value), row[0] in told_unlike(*question, model))

    def test_none_where_the_table_has_the_label(self):
        found = 0
        for question, _ in ASKED.values():
            rows, table = same(*question)
            for at, (label, model) in enumerate(rows):
                if model is not None:
                    found += 1
                    self.assertIs(shows_same(*question, (rows[:at] + ((label, None),) + rows[at + 1:], table)), False)
        self.assertGreater(found, 10)

    def test_a_member_left_out(self):
        for question, _ in ASKED.values():
            rows, table = same(*question)
            for at in range(0, len(table), 1 + len(table) // 30):
                self.assertIs(shows_same(*question, (rows, table[:at] + table[at + 1:])), False)
            self.assertIs(shows_same(*question, (rows, ())), False)

    def test_larger_closed_tables(self):
        question = (TWICE, WITHOUT)
        rows, table = same(*question)
        first, cells = ("", (), ()), (((), ()), ((),))
        a = ("a", ("", ""), ())
        self.assertIn(((first, a), cells, ("l",)), table)
        for member, shown in ((((), cells, ("l",)), True), (((first, a), cells, ()), True), (((), cells, ("m",)), False),
                              (((first, a), cells, ("l", "m")), False)):
            larger = closed_with(question, member)
            self.assertIs(shows_same(*question, (rows, larger)), shown, member)

    def test_larger_closed_tables_of_cells(self):
        rows, table = same(*CELLS)
        first = ("", (), ())
        for cells, shown in (((0, 0), True), ((1, 1), True), ((0, 1), False), ((1, 0), False), ((0, 2), False), ((1, 2), True)):
            cells = tuple(((worth,),) for worth in cells)
            larger = closed_with(CELLS, ((first,), cells, ()))
            self.assertIs(shows_same(*CELLS, (rows, larger)), shown, cells)
            self.assertIs(shows_same(*CELLS, (rows, closed_with(CELLS, ((), cells, ())))), True, cells)
            self.assertIs(shows_same(*CELLS, (rows, closed_with(CELLS, ((), cells, ("l",))))), False, cells)
        for cells in (((2,),), ((0,),)), (((0,),), ((3,),)), (((-1,),), ((0,),)):
            self.assertIs(shows_same(*CELLS, (rows, closed_with(CELLS, ((), cells, ())))), False, cells)

    def test_members_that_are_not_of_the_form(self):
        question = FURTHER
        rows, table = same(*question)
        first, cells = ("", (), ()), (((),), ((),))
        a, b, c = ("a", ("", ""), ()), ("b", ("", ""), ()), ("c", ("",), ())
        self.assertIn(((first, a, b, c), cells, ("l",)), same(*question)[1])
        for shown in (((first, a, b, c), cells, ()), ((first, ("a", ("", "p"), ())), cells, ("l",)),
                      ((first, a, ("b", ("", "q"), ())), cells, ())):
            self.assertIs(shows_same(*question, (rows, closed_with(question, shown))), True)
        opens = [None, [first], (None,), ((),), (("", ()),), (list(first),), (a,), (first, first), (first, b), (first, a, a),
                 (first, ("a", ("p", ""), ())), (first, ("a", ("", "q"), ())), (first, a, ("b", ("", "p"), ())),
                 (first, ("a", ("",), ())), (first, ("a", ["", ""], ())), (first, ("a", (), ())), (first, ("d", ("", ""), ())),
                 (("", (), (("a", "p"),)), a), (("", (), [("a", "")]),), (("", (), None),), (("", ("",), ()),),
                 (first, (["a"], ("", ""), ()))]
        wrong = [(other, cells, ()) for other in opens]
        wrong += [((first,), other, ()) for other in (
            (), ((),), cells[:1], cells * 2, [*cells], None, ((), ()), (((0,),), ((),)), ([()], ((),)), (None, None))]
        wrong += [((first,), cells, other) for other in (
            ("l", "l"), ("m", "l"), ("x",), ("a",), ["l"], "l", None, (None,), ("",), (("l",),), (["l"],), ("l", 1))]
        done = ((), cells, ())
        wrong += [done[:2], (*done, ()), list(done), None, (), 0]
        for member in wrong:
            try:
                larger = tuple(sorted({*table, member}))
            except TypeError:
                larger = (*table, member)
            self.assertIs(shows_same(*question, (rows, larger)), False, member)

    def test_used_keys_by_the_form(self):
        # The keys p of both kinds are named; a stands in none, b in a.
        question = NAMED
        rows, table = same(*question)
        cells = (((),), ((),))
        for names, inner, shown in (
                ((), (), True), ((("a", "p"),), (), True), ((), (("b", "p"),), True), ((("a", "p"),), (("b", "p"),), True),
                ((("b", "p"),), (), False), ((), (("a", "p"),), False), ((("a", "q"),), (), False), ((("a", ""),), (), False),
                ((("c", "p"),), (), False), ((("", "p"),), (), False), ((("a", "p"), ("a", "p")), (), False),
                ((("a", "p", "p"),), (), False), ((("a",),), (), False), (((),), (), False), ((), (("b", "p"), ("b", "p")), False)):
            larger = closed_with(question, ((("", (), names), ("a", ("", ""), inner)), cells, ()))
            self.assertIs(shows_same(*question, (rows, larger)), shown, (names, inner))

    def test_classes_by_the_form(self):
        # The key is named, and does not last; the field lasts.
        question = NAMED
        rows, table = same(*question)
        cells = (((),), ((),))
        for words, shown in ((("", ""), True), (("", "q"), True), (("p", ""), False), (("p", "q"), False), (("", "p"), False),
                             (("", "r"), False), (("", "", ""), False)):
            larger = closed_with(question, ((("", (), ()), ("a", words, ())), cells, ()))
            self.assertIs(shows_same(*question, (rows, larger)), shown, words)

    def test_labels_that_newer_alone_has_are_none_of_the_form(self):
        rows, table = same(WITHOUT, TWICE)
        done = next(member for member in table if member[0] == ())
        self.assertIs(shows_same(WITHOUT, TWICE, (rows, tuple(sorted({*table, (*done[:2], ("l",))})))), False)

    def test_true_is_no_worth_of_a_cell(self):
        rows, table = same(*CELLS)
        other = tuple((opened, tuple(tuple(tuple(bool(worth) if worth < 2 else worth for worth in worths) for worths in own)
                                     for own in cells), labels) for opened, cells, labels in table)
        self.assertEqual(other, table)
        self.assertIs(shows_same(*CELLS, (rows, other)), False)

    def test_not_ascending(self):
        rows, table = same(*FURTHER)
        for other in (table[::-1], table[1:2] + table[:1] + table[2:], table[:1] + table, table + table[-1:], list(table)):
            self.assertIs(shows_same(*FURTHER, (rows, other)), False)

    def test_rows_otherwise(self):
        rows, table = same(*FURTHER)
        for other in (rows[::-1], rows[1:], rows[:-1], rows + rows[-1:], list(rows), (), None, rows[:2] + (list(rows[2]),),
                      rows[:2] + ((*rows[2], ()),), rows[:2] + (rows[2][:1],), rows[:2] + (("", rows[2][1]),),
                      rows[:2] + ((None, rows[2][1]),), (("t", ()), *rows[1:]), (("t", None, None), *rows[1:])):
            self.assertIs(shows_same(*FURTHER, (other, table)), False, other)

    def test_values_of_any_kind(self):
        rows, table = same(*FURTHER)
        for value in [*ODD_VALUES, *nested(30)]:
            told = [value, (value, table), (rows, (value,)), (rows, (*table, value)), ((value,) * 3, table),
                    (rows, table, value), [rows, table], (rows, value)]
            told += [(rows[:at] + ((rows[at][0], value),) + rows[at + 1:], table) for at in range(3)]
            for other in told:
                if other != (rows, table):
                    self.assertIs(shows_same(*FURTHER, other), False, other)


class WrongInputs(unittest.TestCase):
    def test_programs_of_other_kinds(self):
        for elder, newer in ((TOWN, KEYS), (KEYS, TOWN), (KEYS, Program("kind a\npass")), (FURTHER[0], KEYS),
                             (KEYS, Program("kind a\n  field x\nkind b\npass")), (KEYS, Program("kind a\n  field y\npass"))):
            for asked in (lambda: same(elder, newer), lambda: shows_same(elder, newer, None)):
                with self.assertRaises(BadPrograms) as caught:
                    asked()
                self.assertIs(caught.exception.value[0], elder)
                self.assertIs(caught.exception.value[1], newer)
                self.assertEqual(len(caught.exception.value), 2)


if __name__ == "__main__":
    unittest.main()
