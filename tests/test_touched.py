import copy
import itertools
import unittest
from unittest import mock

from handkept.errors import BadField, TooMany
from handkept.models import is_model
from handkept.programs import Program
from handkept.touched import shows_touched, touched

from tests.drawn import Drawing
from tests.events import unlike
from tests.plain_pairs import PlainTouched
from tests.plain_walk import table_of
from tests.questions import CLOSED, FIELDS, KEYS, TESTED, TOLD, TOWN, TWICE, one_kind
from tests.samples import ODD_VALUES, nested
from tests.search import changes, many_records

DRAWN = 150
CHAIN = "kind a\n  field x\nkind b in a\n  field x\n  field y\nkind c in b\nkind d\n  field x\npass\n"


def chained(*lines):
    return Program(CHAIN + "\n".join("  " + line for line in lines))


FAR = chained("open a", "  line l a.key p", "  head h a a.x", "open b", "  line m b.key a.x", "  head i - b.x a.x",
              "open c", "  head j b a.x c.key", "close c", "  line n p a.x", "open d", "  line o d.x d.key")
SAME_NAME = chained("open b", "  if b.x is p", "    line l p", "  if a.x is p", "    line m p", "  line n b.y")
BELOW = chained("open a", "  if a.key is p", "    line l a.x", "open b", "  if b.y is q", "    line m a.x",
                "  else", "    if a.x is r", "      line n q")
HERE = one_kind("cell c 2", "open a", "  if c = 1", "    line l a.key", "  if a.x is p", "    set c 1", "  if c = 1",
                "    line m q")
LATER = one_kind("cell c 2", "open a", "  set c 0", "  if a.x is p", "    set c 1", "close a", "  if c = 1",
                 "    line l a.key", "  set c 0", "end", "  if c = 1", "    line m q")
AT_END = one_kind("cell c 2", "begin", "  line t p", "open a", "  if a.x is p", "    set c 1", "end", "  if c = 1",
                  "    line e q", "  else", "    line f q")
THREE = one_kind("cell c 3", "open a", "  if c = 2", "    line l p", "  if c = 1", "    set c 2", "  if a.x is p",
                 "    if c = 0", "      set c 1", "end", "  if c = 1", "    line e p")
PASSES = one_kind("cell c 2", "open a", "  if a.x is p", "    set c 1", "end", "  if c = 1", "    line l p", "pass",
                  "cell c 2", "open a", "  line m a.key a.x", "end", "  if c = 1", "    line n p")
KEYED = Program("kind a\n  field x\nkind b in a\n  field x\npass\n  open a\n    if a.key is p\n      line l a.x\n"
                "  open b\n    if b.key is p\n      line m b.x\n    if a.x is q\n      line n b.x")
UNDONE = one_kind("cell c 2", "open a", "  if a.x is p", "    set c 1", "  else", "    set c 1", "end", "  if c = 1",
                  "    line l p")

# A program, a kind and a field of it, and how many records the models have for each label, None where there are none.
ASKED = {
    "towns": ((TOWN, "shop", "owner"), {"t": None, "s": 2}),
    "lines of its own kind": ((FIELDS, "a", "x"), {"l": 1}),
    "of kinds in it, near and far, of heads": (
        (FAR, "a", "x"), {"l": None, "h": 1, "m": 2, "i": 2, "j": 3, "n": 3, "o": None}),
    "of an inner kind": ((FAR, "b", "x"), {"l": None, "h": None, "m": None, "i": 2, "j": None, "n": None, "o": None}),
    "of another kind": ((FAR, "d", "x"), {"l": None, "h": None, "m": None, "i": None, "j": None, "n": None, "o": 1}),
    "nobody asks for it": ((FAR, "b", "y"), dict.fromkeys("lhmijno")),
    "the key alone": ((KEYS, "a", "x"), {"l": None}),
    "at a close": ((CLOSED, "a", "x"), {"l": 1, "m": 1}),
    "below a test of it": ((TESTED, "a", "x"), {"l": 1, "m": 1}),
    "below a test of a field of this name": ((SAME_NAME, "a", "x"), {"l": None, "m": 2, "n": None}),
    "below a test of the inner one": ((SAME_NAME, "b", "x"), {"l": 2, "m": None, "n": None}),
    "beside them": ((SAME_NAME, "b", "y"), {"l": None, "m": None, "n": 2}),
    "below tests of others": ((BELOW, "a", "x"), {"l": 1, "m": 2, "n": 2}),
    "below a test of another one that turns": ((BELOW, "b", "y"), {"l": None, "m": 2, "n": 2}),
    "a cell in this handler and in the next record": ((HERE, "a", "x"), {"l": 2, "m": 1}),
    "a cell in a later one": ((LATER, "a", "x"), {"l": 1, "m": None}),
    "a cell at the end": ((AT_END, "a", "x"), {"t": None, "e": 1, "f": 1}),
    "a cell of three worths": ((THREE, "a", "x"), {"l": 3, "e": 1}),
    "two passes": ((PASSES, "a", "x"), {"l": 1, "m": 1, "n": None}),
    "a field in one of two passes": ((TWICE, "a", "x"), {"l": None, "m": 1}),
    "a test that changes nothing": ((UNDONE, "a", "x"), {"l": None}),
    "once for a cell": ((TOLD, "a", "x"), {"top": None, "h": None, "l": 1}),
}


def questions():
    """(program, kind, field) of those that are asked, and of drawn ones."""
    found = [question for question, _ in ASKED.values()]
    for number in range(DRAWN):
        drawing = Drawing(number)
        drawing.draw_kinds()
        program = drawing.program(drawing.chance.choice([1, 2, 2, 3]))
        found += [(program, kind, field) for kind, _, fields in program.kinds for field in fields]
    return found


def flat(row, path=()):
    """{path: words} of all records."""
    found = {}
    for kind, words, inner in row:
        own = path + ((kind, words[0]),)
        found[own] = words
        found.update(flat(inner, own))
    return found


def is_turn(program, kind, field, elder, newer):
    """Whether two models are the same but for this field of one record."""
    rows = [flat(elder), flat(newer)]
    if list(rows[0]) != list(rows[1]):
        return False
    place = next(1 + fields.index(field) for name, _, fields in program.kinds if name == kind)
    turned = [(path, at) for path, words in rows[0].items() for at, word in enumerate(words) if rows[1][path][at] != word]
    return len(turned) == 1 and turned[0][0][-1][0] == kind and turned[0][1] == place


def one_turn(program, kind, field, many, pool):
    """All two models of so many records, the same but for this field of one record."""
    return [pair for pair in changes(program, (("turn", kind, field),), many, pool)
            if is_turn(program, kind, field, *pair)]


def closed_with(question, *members):
    """The least closed table with these members."""
    walk = PlainTouched(*question)
    with mock.patch.object(walk, "first", return_value=[*walk.first(), *members]):
        return table_of(walk, 5000)


class Told(unittest.TestCase):
    def test_rows(self):
        for name, (question, many) in ASKED.items():
            rows, _ = touched(*question)
            self.assertEqual([row[0] for row in rows], list(question[0].labels), name)
            told = {label: None if elder is None else many_records(elder, newer) for label, elder, newer in rows}
            self.assertEqual(told, many, name)
            for label, elder, newer in rows:
                self.assertEqual(elder is None, newer is None)
                if elder is not None:
                    self.assertTrue(is_model(question[0], elder) and is_turn(*question, elder, newer), name)
                    self.assertIn(label, unlike((question[0],) * 2, (elder, newer)), name)

    def test_a_table_in_full(self):
        program = one_kind("cell c 2", "open a", "  if a.x is p", "    set c 1", "close a", "  line l a.key", "end",
                           "  if c = 1", "    line m p")
        first, still, turned = (False, "", (), (), ()), (False, "a", ("", ""), ("", ""), ()), (True, "a", ("", ""), ("", ""), ())
        members = []
        for cells in ((0, 0), (1, 1)):
            members += [((first,), cells, "ahead", ()), ((first, still), cells, "ahead", ())]
        for cells in ((0, 0), (1, 1), (0, 1), (1, 0)):
            members += [((first, turned), cells, "within", ()), ((first,), cells, "behind", ()),
                        ((first, still), cells, "behind", ()),
                        ((), cells, "behind", () if cells[0] == cells[1] else ("m",))]
        members = [(rows, tuple(((worth,),) for worth in cells), *rest) for rows, cells, *rest in members]
        rows, table = touched(program, "a", "x")
        self.assertEqual(table, tuple(sorted(members)))
        self.assertEqual([(row[0], row[1] is None) for row in rows], [("l", True), ("m", False)])

    def test_lasting_classes_in_a_table(self):
        program = Program("kind a\n  field x\nkind b in a\npass\n  open b\n    if a.x is p\n      line l p")
        first, b = (False, "", (), (), ()), (False, "b", ("",), ("",), ())
        members = []
        for classes in itertools.product(("", "p"), repeat=2):
            words = [("", word) for word in classes]
            labels = ("l",) if classes[0] != classes[1] else ()
            if classes[0] == classes[1]:
                still = (False, "a", *words, ())
                for phase, told in (("ahead", [()]), ("behind", [(), ("l",)])):
                    members += [((first, still, *inner), phase, own) for inner in ((), (b,)) for own in told]
            if classes != ("p", "p"):
                turned = (True, "a", *words, ())
                members += [((first, turned), "within", own) for own in {(), labels}]
                members.append(((first, turned, b), "within", labels))
        members += [((first,), "ahead", ()), ((first,), "behind", ()), ((first,), "behind", ("l",)),
                    ((), "behind", ()), ((), "behind", ("l",))]
        told = touched(program, "a", "x")[1]
        self.assertEqual(told, tuple(sorted((rows, (((),), ((),)), *rest) for rows, *rest in members)))

    def test_tables_are_the_least_closed_ones(self):
        walked = 0
        for question in questions():
            table = PlainTouched(*question).table(500)
            if table is not None:
                self.assertEqual(touched(*question)[1], table, question[0].text)
                walked += 1
        self.assertGreater(walked, DRAWN // 2)

    def test_held_against_all_small_models(self):
        for question in questions():
            try:
                rows, _ = touched(*question)
            except TooMany:
                continue
            program, kind, field = question
            sizes = {}
            for label, elder, newer in rows:
                sizes[label] = 99 if elder is None else many_records(elder, newer)
                if elder is not None:
                    self.assertTrue(is_turn(*question, elder, newer), (program.text, label))
                    self.assertIn(label, unlike((program, program), (elder, newer)), program.text)
            words = sorted({word for word in program.text.split() if word in ("p", "q")})
            for many in range(3):
                for pair in one_turn(*question, many, words + ["f", "g"]):
                    for label in unlike((program, program), pair):
                        self.assertLessEqual(sizes[label], many, (program.text, label, pair))

    def test_a_key_that_is_used(self):
        # Just one record of a row has the key p: so m needs another row.
        lines = ["  open b", "    if b.key is p", "      if c = 1", "        line m b.x", "      set c 1"]
        program = Program("\n".join(["kind a", "kind b in a", "  field x", "pass", "  cell c 2", *lines]))
        self.assertEqual(many_records(*touched(program, "b", "x")[0][0][1:]), 4)

    def test_words_that_programs_test_are_no_other_words(self):
        for words in ("ab", "bc", "cd", "da"):
            one, other = words
            program = one_kind("open a", f"  if a.x is {one}", "    line l p", f"  if a.key is {other}", "    line m p", "  else",
                               "    line n a.x")
            told = touched(program, "a", "x")
            self.assertEqual([row[0] for row in told[0] if row[1] is not None], ["l", "n"])
            self.assertIs(shows_touched(program, "a", "x", told), True)

    def test_too_many(self):
        words = [one + other for one in "abc" for other in "abcd"]
        lines = [line for word in words for line in ("    if a.key is " + word, "      line l" + word + " a.x")]
        for many, refused in ((6, False), (12, True)):
            program = Program("\n".join(["kind a", "  field x", "pass", "  open a", *lines[:12]] + (
                ["  close a", *lines[12:24]] if many > 6 else [])))
            if not refused:
                self.assertLess(len(touched(program, "a", "x")[1]), 6001)
                continue
            with self.assertRaises(TooMany) as caught:
                touched(program, "a", "x")
            self.assertEqual(caught.exception.number, 6000)
            nothing = tuple((label, None, None) for label in program.labels)
            self.assertIs(shows_touched(program, "a", "x", (nothing, ())), False)

    def test_a_table_of_just_so_many(self):
        many = len(touched(BELOW, "a", "x")[1])
        with mock.patch("handkept.reaching.MOST_MEMBERS", many):
            self.assertEqual(len(touched(BELOW, "a", "x")[1]), many)
        with mock.patch("handkept.reaching.MOST_MEMBERS", many - 1):
            with self.assertRaises(TooMany):
                touched(BELOW, "a", "x")

    def test_by_name(self):
        told = touched(field="x", kind="a", program=TOLD)
        self.assertEqual(told, touched(TOLD, "a", "x"))
        self.assertIs(shows_touched(value=told, field="x", kind="a", program=TOLD), True)


class Shown(unittest.TestCase):
    def test_what_is_told(self):
        for question in questions():
            try:
                told = touched(*question)
            except TooMany:
                continue
            kept = copy.deepcopy(told)
            self.assertIs(shows_touched(*question, told), True)
            self.assertEqual(told, kept)

    def with_models(self, question, label, elder, newer):
        """Whether a result with these models for a label is shown."""
        rows, table = touched(*question)
        rows = tuple((label, elder, newer) if row[0] == label else row for row in rows)
        return shows_touched(*question, (rows, table))

    def test_other_models_of_any_size(self):
        shops = tuple(("shop", (letter * 2, "bo"), ()) for letter in "abcdefgh")
        towns = tuple(("town", (letter,), shops) for letter in "klmno")
        turned = shops[:3] + (("shop", ("dd", "cy"), ()),) + shops[4:]
        newer = towns[:2] + (("town", ("m",), turned),) + towns[3:]
        question = (TOWN, "shop", "owner")
        self.assertIs(self.with_models(question, "s", towns, newer), True)
        self.assertIs(self.with_models(question, "s", newer, towns), True)
        twice = newer[:3] + (("town", ("n",), turned),) + newer[4:]
        came, again = shops + (("shop", ("i", "bo"), ()),), (("town", ("k",), turned), *newer[1:])
        for other in (towns, twice, again, newer[1:], newer[:-1], newer[::-1], (), newer + (("town", ("p",), ()),),
                      newer[:4] + (("town", ("o",), came),), newer[:4] + (("town", ("p",), shops),),
                      list(newer), newer[:4] + (list(newer[4]),), newer + newer[:1], None):
            self.assertIs(self.with_models(question, "s", towns, other), False, other)

    def test_models_that_differ_in_more(self):
        record, question = ("b", ("k", "p", "q"), ()), (SAME_NAME, "b", "x")
        elder = (("a", ("k", "u"), (record,)),)
        for newer, shown in (
                ((("a", ("k", "u"), (("b", ("k", "r", "q"), ()),)),), True),
                ((("a", ("k", "u"), (("b", ("k", "p", "r"), ()),)),), False),
                ((("a", ("k", "u"), (("b", ("k", "r", "r"), ()),)),), False),
                ((("a", ("k", "u"), (("b", ("m", "r", "q"), ()),)),), False),
                ((("a", ("k", "v"), (("b", ("k", "r", "q"), ()),)),), False),
                ((("a", ("m", "u"), (("b", ("k", "r", "q"), ()),)),), False),
                ((("a", ("k", "u"), (("b", ("k", "r", "q"), (("c", ("k",), ()),)),)),), False),
                ((("a", ("k", "u"), ()),), False), (elder, False)):
            self.assertIs(self.with_models(question, "l", elder, newer), shown, newer)

    def test_a_field_of_another_kind(self):
        elder, newer = [(("a", ("k", "u"), (("b", ("k", word, "q"), ()),)),) for word in "vw"]
        self.assertIs(self.with_models((FAR, "b", "x"), "i", elder, newer), True)
        self.assertIs(self.with_models((FAR, "b", "y"), "i", elder, newer), False)
        self.assertIs(self.with_models((FAR, "a", "x"), "i", elder, newer), False)

    def test_a_record_that_moves(self):
        # The records are the same, in other rows.
        record, turned = ("b", ("k", "p", "q"), ()), ("b", ("k", "r", "q"), ())
        rows = [(("a", ("k", "u"), (own,)), ("a", ("m", "u"), ())) for own in (record, turned)]
        moved = (("a", ("k", "u"), ()), ("a", ("m", "u"), (turned,)))
        self.assertIs(self.with_models((SAME_NAME, "b", "x"), "l", *rows), True)
        self.assertIs(self.with_models((SAME_NAME, "b", "x"), "l", rows[0], moved), False)

    def test_models_that_show_no_such_difference(self):
        for question, _ in ASKED.values():
            rows, table = touched(*question)
            models = [((), ()), *[row[1:] for row in rows if row[1] is not None]]
            for (at, row), pair in itertools.product(enumerate(rows), models):
                value = (rows[:at] + ((row[0], *pair),) + rows[at + 1:], table)
                self.assertIs(shows_touched(*question, value), row[0] in unlike((question[0],) * 2, pair))

    def test_none_where_the_table_has_the_label(self):
        found = 0
        for question, _ in ASKED.values():
            rows, table = touched(*question)
            for at, (label, elder, newer) in enumerate(rows):
                if elder is not None:
                    found += 1
                    for models in ((None, None), (None, newer), (elder, None)):
                        value = (rows[:at] + ((label, *models),) + rows[at + 1:], table)
                        self.assertIs(shows_touched(*question, value), False)
        self.assertGreater(found, 10)

    def test_a_member_left_out(self):
        for question, _ in ASKED.values():
            rows, table = touched(*question)
            for at in range(0, len(table), 1 + len(table) // 30):
                self.assertIs(shows_touched(*question, (rows, table[:at] + table[at + 1:])), False)
            self.assertIs(shows_touched(*question, (rows, ())), False)

    def test_larger_closed_tables(self):
        question = (AT_END, "a", "x")
        rows, table = touched(*question)
        first = (False, "", (), (), ())
        still, turned = (False, "a", ("", ""), ("", ""), ()), (True, "a", ("", ""), ("", ""), ())
        for member, shown in (
                (((first,), (((0,),), ((1,),)), "ahead", ()), True),
                (((first,), (((1,),), ((1,),)), "ahead", ("e",)), True),
                (((first,), (((1,),), ((1,),)), "ahead", ("e", "f")), True),
                (((), (((1,),), ((0,),)), "ahead", ()), True),
                (((first, still), (((1,),), ((0,),)), "behind", ("f",)), True),
                (((first, turned), (((1,),), ((0,),)), "within", ("e",)), True),
                (((), (((0,),), ((0,),)), "behind", ("t",)), False),
                (((first,), (((0,),), ((0,),)), "ahead", ("t",)), False)):
            larger = closed_with(question, member)
            self.assertIn(member, larger)
            self.assertEqual(set(table) - set(larger), set())
            self.assertIs(shows_touched(*question, (rows, larger)), shown, member)

    def test_members_that_are_not_of_the_form(self):
        question = (SAME_NAME, "b", "x")
        rows, table = touched(*question)
        first = (False, "", (), (), ())
        cells = (((),), ((),))
        a, b = (False, "a", ("", ""), ("", ""), ()), (True, "b", ("", "", ""), ("", "", ""), ())
        self.assertIn(((first, a, b), cells, "within", ()), table)
        opens = [None, [first], (None,), ((),), (first[:4],), (list(first),), (a,), (first, b), (first, first), (first, a, a),
                 (first, a, ["b"]), (first, a, (1, *b[1:])), ((0, *first[1:]),), ((True, *first[1:]),), (first, (True, *a[1:])),
                 (first, a, (False, *b[1:])), (first, a, (True, "c", ("",), ("",), ())), (first, a, b, b),
                 (first, (False, "a", ("", "q"), ("", "q"), ()), b), (first, (False, "a", ("", "p"), ("", ""), ()), b),
                 (first, (False, "a", ("p", ""), ("p", ""), ()), b), (first, (False, "a", ("",), ("",), ()), b),
                 (first, a, (True, "b", ("", "p", ""), ("", "p", ""), ())), (first, a, (True, "b", ("", "", ""), (), ())),
                 (first, a, (True, "b", ["", "", ""], ["", "", ""], ())), (first, a, (True, "b", None, None, ())),
                 ((*first[:4], (("a", "p"),)), a, b), ((*first[:4], [("a", "p")]), a, b), ((*first[:4], None), a, b),
                 ((*first[:4], (("a", ""),)), a, b), (first, (*a[:4], (("c", "p"),)), b)]
        wrong = [(other, cells, "within", ()) for other in opens]
        wrong += [((first, a, b), other, "within", ()) for other in (
            (), ((),), cells[:1], cells * 2, [*cells], None, ((), ()), (((0,),), ((),)), ([()], ((),)), (None, None))]
        wrong += [((first, a, b), cells, other, ()) for other in ("ahead", "behind", "", "in", None, True, ("within",), ["within"])]
        wrong += [((first, a), cells, "within", ()), ((first,), cells, "within", ()), ((), cells, "within", ())]
        wrong += [((first, a, b), cells, "within", other) for other in (
            ("l", "l"), ("m", "l"), ("x",), ("a",), ["l"], "l", None, (None,), ("",), (("l",),), (["l"],), ("l", 1))]
        done = ((), cells, "behind", ())
        wrong += [done[:3], (*done, ()), list(done), None, (), 0]
        for member in wrong:
            try:
                larger = tuple(sorted([*[own for own in table if own != member], member]))
            except TypeError:
                larger = (*table, member)
            self.assertIs(shows_touched(*question, (rows, larger)), False, member)

    def test_classes_of_what_lasts(self):
        # The field of a lasts in b; of b nothing lasts.
        question = (SAME_NAME, "a", "x")
        rows, table = touched(*question)
        first, cells = (False, "", (), (), ()), (((),), ((),))
        for is_turned, words, newer, shown in (
                (True, "p", "", True), (True, "", "p", True), (True, "", "", True), (True, "p", "p", False),
                (False, "p", "p", True), (False, "", "", True), (False, "", "p", False), (True, "q", "", False),
                (True, "", "q", False), (False, "q", "q", False)):
            own = (is_turned, "a", ("", words), ("", newer), ())
            member = ((first, own), cells, "within" if is_turned else "behind", ("m",))
            larger = closed_with(question, member)
            self.assertIs(shows_touched(*question, (rows, larger)), shown, own)

    def test_rows_by_the_form(self):
        # With all that comes of these members.
        question = (KEYED, "b", "x")
        rows, table = touched(*question)
        cells = (((),), ((),))
        first, a, b = (False, "", (), (), ()), (False, "a", ("", ""), ("", ""), ()), (True, "b", ("", ""), ("", ""), ())
        for opened, phase, shown in (
                ((first, a), "behind", True), ((first, a), "ahead", True), ((first, a, b), "within", True), ((), "behind", True),
                ((), "ahead", True), ((first, a), "", False), ((first,), "past", False), ((), "", False), ((), "within", False),
                ((first,), "within", False), ((first, a), "within", False), ((first, a, b), "behind", False), ((first, a, b), "ahead", False),
                (((False, "b", ("", ""), ("", ""), ()),), "behind", False),
                (((False, "", ("",), ("",), ()),), "behind", False), ((first, (True, *a[1:])), "within", False),
                ((first, (False, *b[1:])), "behind", False), ((first, a, (False, *b[1:])), "behind", True)):
            larger = closed_with(question, (opened, cells, phase, ()))
            self.assertIs(shows_touched(*question, (rows, larger)), shown, (opened, phase))

    def test_records_of_other_kinds_do_not_turn(self):
        question = (FAR, "a", "x")
        rows, table = touched(*question)
        cells = (((),), ((),))
        for is_turned, phase in ((True, "within"), (False, "behind")):
            member = (((False, "", (), (), ()), (is_turned, "d", ("", ""), ("", ""), ())), cells, phase, ())
            larger = closed_with(question, member)
            self.assertIs(shows_touched(*question, (rows, larger)), not is_turned)

    def test_used_keys_by_the_form(self):
        # The keys p of both kinds are named; a stands in none, b in a.
        question = (KEYED, "a", "x")
        rows, table = touched(*question)
        cells = (((),), ((),))
        a = (False, "a", ("", ""), ("", ""))
        for names, inner, shown in (
                ((), (), True), ((("a", "p"),), (), True), ((), (("b", "p"),), True), ((("a", "p"),), (("b", "p"),), True),
                ((("b", "p"),), (), False), ((), (("a", "p"),), False), ((("a", "q"),), (), False), ((("a", ""),), (), False),
                ((("c", "p"),), (), False), ((("", "p"),), (), False), ((("a", "p"), ("a", "p")), (), False),
                ((("a", "p", "p"),), (), False), ((("a",),), (), False), (((),), (), False), ((), (("b", "p"), ("b", "p")), False)):
            rest = (cells, "behind", ())
            larger = closed_with(question, (((False, "", (), (), names), (*a, inner)), *rest))
            self.assertIs(shows_touched(*question, (rows, larger)), shown, (names, inner))

    def test_classes_by_the_form(self):
        # The key is named, and does not last; the field lasts.
        question = (KEYED, "b", "x")
        rows, table = touched(*question)
        cells = (((),), ((),))
        for words, shown in ((("", ""), True), (("", "q"), True), (("p", ""), False), (("p", "q"), False), (("", "p"), False),
                             (("", "r"), False), (("", "", ""), False)):
            member = (((False, "", (), (), ()), (False, "a", words, words, ())), cells, "behind", ())
            larger = closed_with(question, member)
            self.assertIs(shows_touched(*question, (rows, larger)), shown, words)

    def test_numbers_for_bools(self):
        rows, table = touched(TOWN, "shop", "owner")
        other = tuple((tuple((int(row[0]), *row[1:]) for row in opened), *rest) for opened, *rest in table)
        self.assertEqual(other, table)
        self.assertIs(shows_touched(TOWN, "shop", "owner", (rows, other)), False)
        for at in range(3):
            # In the rows of one depth alone.
            other = tuple((tuple((int(row[0]), *row[1:]) if depth == at else row for depth, row in enumerate(opened)), *rest)
                          for opened, *rest in table)
            self.assertEqual(other, table)
            self.assertIs(shows_touched(TOWN, "shop", "owner", (rows, other)), False, at)

    def test_bools_for_worths(self):
        rows, table = touched(TOLD, "a", "x")
        other = tuple((opened, tuple(tuple(tuple(bool(worth) for worth in worths) for worths in own) for own in cells), *rest)
                      for opened, cells, *rest in table)
        self.assertEqual(other, table)
        self.assertIs(shows_touched(TOLD, "a", "x", (rows, other)), False)

    def test_not_ascending(self):
        question = (FAR, "a", "x")
        rows, table = touched(*question)
        for other in (table[::-1], table[1:2] + table[:1] + table[2:], table[:1] + table, table + table[-1:], list(table)):
            self.assertIs(shows_touched(*question, (rows, other)), False)

    def test_rows_otherwise(self):
        question = (AT_END, "a", "x")
        rows, table = touched(*question)
        for other in (rows[::-1], rows[1:], rows[:-1], rows + rows[-1:], list(rows), (), None, rows[:2] + (list(rows[2]),),
                      rows[:2] + ((*rows[2], ()),), rows[:2] + (rows[2][:2],), rows[:2] + (("", *rows[2][1:]),),
                      rows[:2] + ((None, *rows[2][1:]),), rows[:2] + rows[1:2], (("t", (), ()), *rows[1:]),
                      (("t",), *rows[1:]), (("t", None), *rows[1:]), (("t", None, None, None), *rows[1:])):
            self.assertIs(shows_touched(*question, (other, table)), False, other)

    def test_values_of_any_kind(self):
        question = (AT_END, "a", "x")
        rows, table = touched(*question)
        for value in [*ODD_VALUES, *nested(30)]:
            told = [value, (value, table), (rows, (value,)), (rows, (*table, value)), ((value,) * 3, table),
                    (rows, table, value), [rows, table], (rows, value)]
            told += [(rows[:at] + ((rows[at][0], *models),) + rows[at + 1:], table) for at in range(3)
                     for models in ((value, value), (value, rows[at][2]), (rows[at][1], value))]
            for other in told:
                if other != (rows, table):
                    self.assertIs(shows_touched(*question, other), False, other)


class WrongInputs(unittest.TestCase):
    def refused(self, program, kind, field):
        for asked in (lambda: touched(program, kind, field), lambda: shows_touched(program, kind, field, None)):
            with self.assertRaises(BadField) as caught:
                asked()
            self.assertEqual(caught.exception.value, (kind, field))
            self.assertIs(caught.exception.value[0], kind)
            self.assertIs(caught.exception.value[1], field)

    def test_fields(self):
        for kind, field in (("shop", "key"), ("town", "key"), ("town", "owner"), ("shop", "x"), ("", "owner"), ("owner", "shop"),
                            ("shop", ""), ("Shop", "owner"), ("shop", "owner "), ("shop", "town"), ("t", "owner")):
            self.refused(TOWN, kind, field)
        self.refused(SAME_NAME, "a", "y")

    def test_values_of_any_kind(self):
        for value in [*ODD_VALUES, *nested(30)]:
            self.refused(TOWN, value, "owner")
            self.refused(TOWN, "shop", value)
            self.refused(TOWN, value, value)


if __name__ == "__main__":
    unittest.main()
