import copy
import unittest

from handkept.errors import BadMarks
from handkept.marks import with_marks
from handkept.programs import Program

from tests.samples import ODD_VALUES, TOWNS, nested

TEXT = "\n".join([
    "kind town",
    "kind shop in town",
    "  field owner",
    "kind line",
    "pass",
    "  begin",
    "    line top p",
    "  open town",
    "    line t town.key",
    "    if town.key is rome",
    "      if town.key is rome",
    "        head deep town q town.key",
    "      else",
    "        head low - q",
    "  close town",
    "    head c town r",
    "  open shop",
    "    line s shop.key shop.owner",
    "    line full a b c d e f",
    "    line five a b c d e",
    "    line four a b c d",
    "  end",
    "    line bottom z",
    "pass",
    "  close shop",
    "    head hs town line",
    "  open line",
    "    line line line.key",
])
PROGRAM = Program(TEXT)


class Marks(unittest.TestCase):
    def marked(self, *marks):
        """The lines that are others with these marks."""
        program = with_marks(PROGRAM, marks)
        self.assertIsInstance(program, Program)
        lines, others = TEXT.split("\n"), program.text.split("\n")
        self.assertEqual(len(lines), len(others))
        self.assertEqual(Program("\n".join(others)), program)
        return [other.strip() for line, other in zip(lines, others) if line != other]

    def test_no_marks(self):
        self.assertEqual(with_marks(PROGRAM, ()), PROGRAM)
        self.assertEqual(with_marks(PROGRAM, ()).text, TEXT)

    def test_keys(self):
        self.assertEqual(self.marked(("key", "t", "town")), ["line t town.key town.key"])
        self.assertEqual(self.marked(("key", "s", "shop")), ["line s shop.key shop.owner shop.key"])
        self.assertEqual(self.marked(("key", "s", "town")), ["line s shop.key shop.owner town.key"])

    def test_names(self):
        self.assertEqual(self.marked(("name", "t")), ["line t town.key t"])
        self.assertEqual(self.marked(("name", "top")), ["line top p top"])
        self.assertEqual(self.marked(("name", "bottom")), ["line bottom z bottom"])

    def test_both_of_one_label_in_their_sequence(self):
        marks = (("key", "s", "shop"), ("key", "s", "town"), ("name", "s"))
        self.assertEqual(self.marked(*marks), ["line s shop.key shop.owner shop.key town.key s"])

    def test_several_labels(self):
        marks = (("key", "hs", "town"), ("key", "s", "town"), ("name", "hs"), ("name", "t"))
        told = ["line t town.key t", "line s shop.key shop.owner town.key", "head hs town line town.key hs"]
        self.assertEqual(self.marked(*marks), told)

    def test_lines_in_ifs_and_their_elses(self):
        self.assertEqual(self.marked(("key", "deep", "town")), ["head deep town q town.key town.key"])
        self.assertEqual(self.marked(("key", "low", "town"), ("name", "deep")), [
            "head deep town q town.key deep", "head low - q town.key"])

    def test_heads_with_the_kinds_that_are_open_there(self):
        self.assertEqual(self.marked(("key", "hs", "shop")), ["head hs town line shop.key"])
        self.assertEqual(self.marked(("key", "c", "town")), ["head c town r town.key"])

    def test_a_label_that_is_called_line(self):
        self.assertEqual(self.marked(("key", "line", "line"), ("name", "line")), ["line line line.key line.key line"])

    def test_at_most_six_tokens(self):
        self.assertEqual(self.marked(("name", "five")), ["line five a b c d e five"])
        self.assertEqual(self.marked(("key", "five", "shop")), ["line five a b c d e shop.key"])
        self.assertEqual(self.marked(("key", "four", "town"), ("name", "four")), ["line four a b c d town.key four"])

    def test_the_program_stays(self):
        with_marks(PROGRAM, (("name", "t"),))
        self.assertEqual(PROGRAM.text, TEXT)

    def test_by_name(self):
        self.assertEqual(with_marks(marks=(("name", "t"),), program=Program(TOWNS)).labels, ("t", "s"))


class WrongInputs(unittest.TestCase):
    def refused(self, *marks):
        self.refused_value(marks)
        # Beside another mark that may stand there.
        self.refused_value(tuple(sorted([("name", "top"), *marks], key=repr)))

    def refused_value(self, value):
        kept = copy.deepcopy(value)
        with self.assertRaises(BadMarks) as caught:
            with_marks(PROGRAM, value)
        self.assertIs(caught.exception.value, value)
        self.assertEqual(value, kept)

    def test_more_than_six_tokens(self):
        self.refused(("name", "full"))
        self.refused(("key", "full", "town"))
        self.refused(("key", "five", "town"), ("name", "five"))
        self.refused(("key", "four", "shop"), ("key", "four", "town"), ("name", "four"))

    def test_kinds_that_are_not_open_there(self):
        for label, kind in (("top", "town"), ("bottom", "shop"), ("t", "shop"), ("t", "line"), ("c", "shop"),
                            ("deep", "shop"), ("low", "line"), ("s", "line"), ("hs", "line"), ("line", "town")):
            self.refused(("key", label, kind))

    def test_kinds_and_labels_that_there_are_not(self):
        for mark in (("key", "t", "village"), ("key", "t", ""), ("key", "t", "key"), ("key", "t", "owner"),
                     ("key", "s", "shop.owner"), ("key", "s", "shop.key a"), ("key", "s", " shop"), ("key", "x", "town"),
                     ("key", "", "town"), ("key", "town", "town"), ("name", "x"), ("name", ""), ("name", "town"),
                     ("name", "t "), ("name", "T")):
            self.refused(mark)

    def test_other_forms(self):
        for mark in (("key", "t"), ("name", "t", "town"), ("name",), ("key",), ("key", "t", "town", ""), ("t", "town"),
                     ["name", "t"], ["key", "t", "town"], (["name"], "t"), ("name", ["t"]), ("key", "t", ["town"]),
                     ("key", ["t"], "town"), ("Name", "t"), ("", "t"), ("key", "t", None), ("name", None), ("name", True),
                     (None, "t"), "name", None, (), {"name": "t"}):
            self.refused(mark)

    def test_marks_of_other_sorts(self):
        for mark in (("skip", "s", 1), ("under", "s", "p"), ("only", "s"), ("still", "shop", "owner"),
                     ("stop", "come", "shop"), ("stop", "go", "shop")):
            self.refused(mark)

    def test_not_ascending(self):
        self.refused_value((("name", "t"), ("name", "s")))
        self.refused_value((("name", "s"), ("key", "s", "shop")))
        self.refused_value((("key", "s", "town"), ("key", "s", "shop")))
        self.refused_value((("key", "t", "town"), ("key", "s", "shop")))

    def test_a_mark_twice(self):
        for mark in (("name", "t"), ("key", "s", "shop")):
            self.refused_value((mark, mark))

    def test_lists_and_any_value(self):
        for value in [*ODD_VALUES, *nested(30), [("name", "t")], "name", ("name", "t"), {("name", "t"): True}]:
            self.refused_value(value)


if __name__ == "__main__":
    unittest.main()
