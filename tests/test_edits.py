import copy
import unittest

from handkept.edits import fate, is_rule, remembered
from handkept.errors import BadModel, BadPrograms, BadRule, BadSheet, BadWay, NoChange, NotMade
from handkept.programs import Program

from tests.samples import ODD_VALUES, TOWNS, nested, program_with, text_with

WHOLE = ("first", (), "")


class Rules(unittest.TestCase):
    def test_rules(self):
        for skipped in ((), (0,), (5,), (0, 1, 2, 3, 4, 5), (1, 3), (0, 5)):
            for under in ("", "a", "town", "abcdefgh", "key", "first"):
                self.assertIs(is_rule(("first", skipped, under)), True)
                self.assertIs(is_rule(("only", skipped, under)), True)

    def test_words(self):
        for word in ("", "last", "First", "onl", "onlyy", None, True, 0, ("first",), ["only"], {}):
            self.assertIs(is_rule((word, (), "")), False, word)

    def test_skipped(self):
        for skipped in ((6,), (-1,), (0, 6), (1, 0), (0, 0), (5, 3, 1), (True,), (False,), (0, True), (False, 1), (None,),
                        ("0",), ((0,),), (0, None), [], [0], None, 0, "", "0", {}, {0: 1}, ([],)):
            self.assertIs(is_rule(("first", skipped, "")), False, skipped)

    def test_under(self):
        for under in ("abcdefghi", "A", "a b", "a1", " ", "-", None, True, 0, (), ("a",), ["a"], [], {}):
            self.assertIs(is_rule(("only", (), under)), False, under)

    def test_other_forms(self):
        for value in [*ODD_VALUES, *nested(30), (), "first", ("first", ()), ("first", (), "", ""), ["first", (), ""],
                      ((), "first", "")]:
            kept = copy.deepcopy(value)
            self.assertIs(is_rule(value), False, value)
            self.assertEqual(value, kept)

    def test_by_name(self):
        self.assertIs(is_rule(value=WHOLE), True)


# Two passes; with headings of both, of more words and of one, and one that is a key.
TITLES = program_with(
    ("begin", "line top in rome now"),
    ("open a", "line la in a.key", "line lx a.x y", "line ly in"),
    ("close a", "head ha - a.y in"),
    ("end", "line bottom end"),
    kinds=("kind a", "  field x", "  field y"),
)


def record(key, x="u", y="v", inner=()):
    return ("a", (key, x, y), inner)


def way(label, *keys, kind="a"):
    return (label, tuple((kind, key) for key in keys))


class Remembered(unittest.TestCase):
    def test_words_and_skipped_places(self):
        program = program_with(("open a", "line l a.key p a.x q a.y r"))
        model = (record("k", "w", "z"),)
        told = {
            (): ("k", "p", "w", "q", "z", "r"),
            (0,): ("", "p", "w", "q", "z", "r"),
            (1, 2): ("k", "", "", "q", "z", "r"),
            (0, 1, 2, 3, 4, 5): ("",) * 6,
        }
        for skipped, words in told.items():
            for word in ("first", "only"):
                self.assertEqual(remembered(program, model, way("l", "k"), (word, skipped, "")), (words, ""))

    def test_places_behind_the_line_are_skipped_too(self):
        program = program_with(("open a", "line l a.key p"))
        self.assertEqual(remembered(program, (record("k"),), way("l", "k"), ("first", (1, 4, 5), "")), (("k", ""), ""))

    def test_titles(self):
        model = (record("k"), record("m", "in", "in"))
        told = {
            # Nothing stands ahead, or other lines.
            (("top", ()), "in"): (("in", "rome", "now"), ""),
            (("top", ()), "end"): (("in", "rome", "now"), ""),
            (way("la", "k"), "in"): (("in", "k"), "rome"),
            (way("lx", "k"), "in"): (("u", "y"), "k"),
            (way("lx", "k"), ""): (("u", "y"), ""),
            (way("lx", "k"), "nothere"): (("u", "y"), ""),
            # A line of one word stands ahead; the line itself is no title of its own.
            (way("ly", "k"), "in"): (("in",), "k"),
            (("ha", ()), "in"): (("v", "in"), ""),
            # The last one counts; words of records can be titles.
            (way("la", "m"), "in"): (("in", "m"), ""),
            (way("lx", "m"), "in"): (("in", "y"), "m"),
            (("bottom", ()), "in"): (("end",), "in"),
        }
        for (asked, under), memory in told.items():
            self.assertEqual(remembered(TITLES, model, asked, ("first", (), under)), memory, (asked, under))

    def test_titles_of_the_other_pass_do_not_count(self):
        text = text_with(("begin", "line h in rome"), ("end", "line l p")) + "\n" + \
            "pass\n  begin\n    line m q\n    line n in\n    line o in oslo\n  end\n    line i r"
        program = Program(text)
        rule = ("first", (), "in")
        told = [remembered(program, (), (label, ()), rule) for label in "lmi"]
        self.assertEqual(told, [(("p",), "rome"), (("q",), ""), (("r",), "oslo")])

    def test_no_line_of_the_way(self):
        model = (record("k"),)
        for asked in (way("la", "m"), way("la"), way("la", "k", "k"), way("la", "k", kind="b"), way("top", "k"),
                      way("ha", "k")):
            self.assertIsNone(remembered(TITLES, model, asked, WHOLE), asked)
        self.assertIsNone(remembered(TITLES, (), way("la", "k"), WHOLE))

    def test_another_line_is_found(self):
        program = program_with(("open a", "line l a.x a.y"))
        model = (record("k", "p", "q"), record("m", "p", "r"), record("n", "p", "q"))
        made = {
            ("first", ()): ["k", "m"], ("first", (1,)): ["k"], ("first", (0,)): ["k", "m"], ("first", (0, 1)): ["k"],
            ("only", ()): ["m"], ("only", (1,)): [], ("only", (0,)): ["m"], ("only", (0, 1)): [],
        }
        for (word, skipped), keys in made.items():
            told = [key for key in "kmn" if remembered(program, model, way("l", key), (word, skipped, "")) is not None]
            self.assertEqual(told, keys, (word, skipped))

    def test_lines_of_another_length_do_not_fit(self):
        program = program_with(("open a", "line l a.x", "line m a.x a.y"))
        model = (record("k", "p", "q"),)
        for label, words in (("l", ("",)), ("m", ("", ""))):
            self.assertEqual(remembered(program, model, way(label, "k"), ("only", (0, 1), "")), (words, ""))

    def test_lines_under_another_title_do_not_fit(self):
        program = program_with(("open a", "line l in a.key", "line m a.x"))
        model = (record("k", "p"), record("m", "p"))
        for word in ("first", "only"):
            self.assertEqual(remembered(program, model, way("m", "m"), (word, (), "in")), (("p",), "m"))
            self.assertIsNone(remembered(program, model, way("m", "m"), (word, (), "")))

    def test_heads_that_come_more_often(self):
        program = program_with(("open b", "head h a b.key", "head i - b.key"), kinds=("kind a", "kind b in a"))
        model = (("a", ("k",), (("b", ("p",), ()), ("b", ("q",), ()))), ("a", ("m",), (("b", ("q",), ()),)))
        # The first line of the way counts, and it is the one that has to be found.
        self.assertEqual(remembered(program, model, way("h", "k"), WHOLE), (("p",), ""))
        self.assertEqual(remembered(program, model, ("i", ()), WHOLE), None)
        self.assertIsNone(remembered(program, model, way("h", "m"), WHOLE))
        self.assertIsNone(remembered(program, model, way("h", "k"), ("only", (), "")))

    def test_by_name(self):
        told = remembered(rule=WHOLE, way=way("la", "k"), model=(record("k"),), program=TITLES)
        self.assertEqual(told, (("in", "k"), ""))


NO_WAYS = (
    *ODD_VALUES, *nested(30), (), "la", ("la",), ("la", (), ()), ["la", ()], ("la", []), ("la", ""), ("la", None),
    ("nothere", ()), ("", ()), (None, ()), (["la"], ()), (("la",), ()), ("la", ("a", "k")), ("la", (("a",),)),
    ("la", (("a", "k", "k"),)), ("la", (["a", "k"],)), ("la", (("a", "K"),)), ("la", (("", "k"),)), ("la", (("a", ""),)),
    ("la", (("a", True),)), ("la", (("a", None),)), ("la", (("a", ("k",)),)), ("la", (("a", "abcdefghi"),)),
    ("la", (("a", "k"), "b")), ("la", (("a", "k"), ("b",))))


class RememberedWrongInputs(unittest.TestCase):
    def refused(self, error, value, *arguments):
        with self.assertRaises(error) as caught:
            remembered(TITLES, *arguments)
        self.assertIs(caught.exception.value, value)

    def test_each_is_told_with_its_very_value(self):
        for value in [*ODD_VALUES, *nested(30)]:
            self.refused(BadModel, value, value, ("top", ()), WHOLE)
            self.refused(BadRule, value, (), ("top", ()), value)
        for value in NO_WAYS:
            self.refused(BadWay, value, (), value, WHOLE)

    def test_ways_of_kinds_that_there_are_not_are_ways(self):
        self.assertIsNone(remembered(TITLES, (), ("la", (("x", "y"), ("z", "z"))), WHOLE))

    def test_the_sequence_of_errors(self):
        model, asked, rule = ["model"], ["way"], ["rule"]
        self.refused(BadModel, model, model, asked, rule)
        self.refused(BadWay, asked, (), asked, rule)
        self.refused(BadRule, rule, (), way("la", "k"), rule)


class Example(unittest.TestCase):
    def test_of_the_document(self):
        program = Program(TOWNS)
        shops = [(("shop", ("a", "bo"), ()),), (("shop", ("a", "cy"), ()),)]
        one = (("town", ("rome",), shops[0]), ("town", ("pisa",), shops[1]))
        other = (("town", ("rome",), ()), ("town", ("pisa",), shops[1]))
        whole, skipped = ("first", (), ""), ("first", (1,), "")
        ways = [("s", (("town", town), ("shop", "a"))) for town in ("rome", "pisa")]
        told = [fate(program, program, (("go", "shop"),), one, other, ways[0], rule) for rule in (whole, skipped)]
        self.assertEqual(told, [("gone", None), ("astray", 2)])
        told = [remembered(program, one, ways[0], whole), remembered(program, one, ways[1], skipped)]
        self.assertEqual(told, [(("a", "bo"), ""), None])


FULL = (("come", "a"), ("go", "a"), ("turn", "a", "x"), ("turn", "a", "y"))


class Fates(unittest.TestCase):
    def told(self, elder, newer, elder_model, newer_model, asked, rule=WHOLE):
        return fate(elder, newer, FULL, elder_model, newer_model, asked, rule)

    def test_one_program(self):
        program = program_with(("open a", "line l a.x"), kinds=("kind a", "  field x", "  field y"))
        elder = (record("k", "p"), record("m", "q"))
        asked = way("l", "k")
        told = {
            (record("k", "p"), record("m", "q")): (("kept", 0), ("kept", 0)),
            (record("n", "r"), record("k", "p")): (("kept", 1), ("kept", 1)),
            # Another line that fits stands ahead, or behind.
            (record("n", "p"), record("k", "p")): (("astray", 0), ("lost", None)),
            (record("k", "p"), record("n", "p")): (("kept", 0), ("lost", None)),
            (record("n", "p"), record("o", "p"), record("k", "p")): (("astray", 0), ("lost", None)),
            # The line that is meant does not fit any more.
            (record("k", "r"), record("m", "q")): (("lost", None), ("lost", None)),
            (record("k", "r"), record("m", "p")): (("astray", 1), ("astray", 1)),
            (record("k", "r"), record("m", "p"), record("n", "p")): (("astray", 1), ("lost", None)),
            # There is none.
            (): (("gone", None), ("gone", None)),
            (record("m", "q"),): (("gone", None), ("gone", None)),
            (record("m", "p"),): (("astray", 0), ("astray", 0)),
            (record("n", "p"), record("m", "p")): (("astray", 0), ("gone", None)),
        }
        for newer, fates in told.items():
            rules = [(word, (), "") for word in ("first", "only")]
            self.assertEqual(tuple(self.told(program, program, elder, newer, asked, rule) for rule in rules), fates, newer)

    def test_skipped_places_turn_freely(self):
        program = program_with(("open a", "line l a.key a.x"), kinds=("kind a", "  field x", "  field y"))
        for skipped, told in (((), ("lost", None)), ((0,), ("lost", None)), ((1,), ("kept", 1))):
            rule = ("first", skipped, "")
            newer = (record("n", "n"), record("k", "q"))
            self.assertEqual(self.told(program, program, (record("k", "p"),), newer, way("l", "k"), rule), told)

    def test_titles(self):
        program = program_with(("open a", "line h in a.y", "line l a.x"), kinds=("kind a", "  field x", "  field y"))
        elder = (record("k", "p", "r"), record("m", "p", "s"))
        rule = ("first", (), "in")
        told = {
            (record("k", "p", "r"), record("m", "p", "s")): ("kept", 3),
            (record("k", "p", "s"), record("m", "p", "s")): ("astray", 1),
            (record("m", "p", "t"),): ("lost", None),
            (record("k", "p", "s"),): ("astray", 1),
            (record("k", "p", "r"),): ("gone", None),
        }
        for newer, wanted in told.items():
            self.assertEqual(self.told(program, program, elder, newer, way("l", "m"), rule), wanted, newer)
        # A title that came between, as a word of a record.
        program = program_with(("open a", "line l a.x a.y"), kinds=("kind a", "  field x", "  field y"))
        elder, newer = (record("k", "p", "r"),), (record("m", "in", "r"), record("k", "p", "r"))
        self.assertEqual(self.told(program, program, elder, newer, way("l", "k"), rule), ("lost", None))
        self.assertEqual(self.told(program, program, elder, newer, way("l", "k")), ("kept", 1))

    def test_labels_that_move_or_are_missing(self):
        kinds = ("kind a", "  field x", "  field y")
        one = program_with(("open a", "line l a.key", "line m a.x"), kinds=kinds)
        moved = Program(text_with(("open a", "line m a.x"), kinds=kinds) + "\npass\n  open a\n    line l a.key")
        without = program_with(("open a", "line m a.x"), kinds=kinds)
        elder = (record("k", "p"), record("n", "q"))
        asked = way("l", "k")
        self.assertEqual(self.told(one, moved, elder, elder, asked), ("kept", 2))
        self.assertEqual(self.told(one, moved, elder, (record("k", "k"), record("n", "q")), asked), ("astray", 0))
        self.assertEqual(self.told(moved, one, elder, elder, asked), ("kept", 0))
        self.assertEqual(self.told(one, without, elder, elder, asked), ("gone", None))
        self.assertEqual(self.told(one, without, elder, (record("k", "r"), record("n", "k")), asked), ("astray", 1))
        # The label is there, its line has another way.
        ended = Program("\n".join([*kinds, "pass", "  end", "    line l k"]))
        self.assertEqual(self.told(one, ended, elder, elder, asked), ("astray", 0))
        self.assertEqual(self.told(one, ended, elder, elder, way("l", "n")), ("gone", None))

    def test_the_first_line_of_the_way_is_meant(self):
        program = program_with(("open b", "head h a b.key"), kinds=("kind a", "kind b in a"))
        sheet = (("come", "b"), ("go", "b"))
        elder = (("a", ("k",), (("b", ("p",), ()),)),)
        newer = (("a", ("k",), (("b", ("q",), ()), ("b", ("p",), ()))),)
        self.assertEqual(fate(program, program, sheet, elder, newer, way("h", "k"), WHOLE), ("astray", 1))
        gone = (("a", ("k",), (("b", ("q",), ()),)),)
        self.assertEqual(fate(program, program, sheet, elder, gone, way("h", "k"), WHOLE), ("lost", None))

    def test_by_name(self):
        program = program_with(("open a", "line l a.x"), kinds=("kind a", "  field x", "  field y"))
        model = (record("k"),)
        told = fate(rule=WHOLE, way=way("l", "k"), newer_model=model, elder_model=model, sheet=(), newer=program,
                    elder=program)
        self.assertEqual(told, ("kept", 0))


class FateWrongInputs(unittest.TestCase):
    elder = program_with(("open a", "line l a.x"), ("end", "line e end"))
    newer = program_with(("open a", "line m a.x"))
    other = program_with(("end", "line l p"), kinds=("kind a", "  field x"))
    right = ((), (), (), ("e", ()), WHOLE)

    def refused(self, error, value, *arguments, newer=None):
        with self.assertRaises(error) as caught:
            fate(self.elder, newer or self.newer, *arguments)
        self.assertEqual(caught.exception.value, value)
        return caught.exception.value

    def with_value(self, place, value):
        return self.right[:place] + (value,) + self.right[place + 1:]

    def test_programs_of_other_kinds(self):
        value = self.refused(BadPrograms, (self.elder, self.other), *self.right, newer=self.other)
        self.assertIs(value[1], self.other)

    def test_each_is_told_with_its_very_value(self):
        for value in [*ODD_VALUES, *nested(30)]:
            for place, error in enumerate((BadSheet, BadModel, BadModel, BadWay, BadRule)):
                self.assertIs(self.refused(error, value, *self.with_value(place, value)), value)

    def test_labels_are_those_of_the_elder_program(self):
        self.refused(BadWay, ("m", ()), *self.with_value(3, ("m", ())))
        self.assertEqual(fate(self.elder, self.newer, *self.right), ("gone", None))

    def test_no_change(self):
        models = ((), (record("k"),))
        self.refused(NoChange, models, (("go", "a"),), *models, ("e", ()), WHOLE)

    def test_not_made(self):
        model = (record("k", "p"), record("m", "p"))
        for asked in (("l", ()), way("l", "n"), way("l", "m"), way("e", "k")):
            value = self.refused(NotMade, asked, (), model, model, asked, WHOLE)
            self.assertIs(value, asked)

    def test_the_sequence_of_errors(self):
        arguments = [["sheet"], ["elder"], ["newer"], ["way"], ["rule"]]
        self.refused(BadPrograms, (self.elder, self.other), *arguments, newer=self.other)
        right = [(), (record("k"),), (), ("l", ()), WHOLE]
        for place, error in enumerate((BadSheet, BadModel, BadModel)):
            self.refused(error, arguments[place], *right[:place], *arguments[place:])
        self.refused(NoChange, (right[1], right[2]), *right[:3], ["way"], ["rule"])
        right[2] = right[1]
        for place, error in ((3, BadWay), (4, BadRule)):
            self.refused(error, arguments[place], *right[:place], *arguments[place:])
        self.refused(NotMade, ("l", ()), *right)


if __name__ == "__main__":
    unittest.main()
