import unittest

from handkept.errors import BadText
from handkept.programs import Program

from tests.samples import ODD_VALUES, TOWNS, nested, program_with, text_with

ALL_FORMS = """\
kind town
kind shop in town
  field owner
  field ware
kind item in shop
  field price
kind road
pass
  cell first 2
  cell many 3
  begin
    line top all towns
    head roof - all
    set first 1
    if many = 2
      set many 0
  open town
    if first = 1
      head intro - towns
      set first 0
    else
      line more town.key
    line town town.key key
  close town
    line tend end town.key
  open shop
    if shop.owner is bo
      line own shop.key
      if town.key is rome
        line rome shop.ware
      else
        head other town shop.ware town.key
    else
      if shop.key is a
        line isa a
    head hshop shop shop.key
  close shop
    set many 2
  open item
    line item town.key shop.key item.key item.price shop.owner shop.ware
    head htown town item.key
    head hshopb shop item.key
    head hitem item item.key
    head hnone - item.key
  close item
    line iend item.key
  open road
    line road road.key
  close road
    line rend road.key
  end
    line bye end
pass
  cell first 3
  end
    if first = 2
      line never x
    else
      line always x"""

ALL_LABELS = (
    "top", "roof", "intro", "more", "town", "tend", "own", "rome", "other", "isa", "hshop", "item", "htown", "hshopb",
    "hitem", "hnone", "iend", "road", "rend", "bye", "never", "always",
)


class Properties(unittest.TestCase):
    def test_all_forms_are_read(self):
        program = Program(ALL_FORMS)
        self.assertEqual(program.text, ALL_FORMS)
        self.assertEqual(program.kinds, (
            ("town", "", ()), ("shop", "town", ("owner", "ware")), ("item", "shop", ("price",)), ("road", "", ())))
        self.assertEqual(program.labels, ALL_LABELS)
        self.assertEqual(program.passes, 2)

    def test_the_least_program(self):
        program = Program("kind a\npass")
        self.assertEqual((program.kinds, program.labels, program.passes), ((("a", "", ()),), (), 1))

    def test_passes_may_have_nothing_below_them(self):
        self.assertEqual(Program("kind a\npass\npass").passes, 2)
        self.assertEqual(Program("kind a\npass\npass\n  begin\n    line l w").labels, ("l",))

    def test_labels_of_both_passes_stand_in_the_sequence_of_the_text(self):
        text = "kind a\npass\n  open a\n    line z w\n    line b w\n  end\n    line y w\npass\n  begin\n    line a w"
        self.assertEqual(Program(text).labels, ("z", "b", "y", "a"))

    def test_the_text_is_passed_by_position_or_by_name(self):
        self.assertEqual(Program(text=TOWNS).text, TOWNS)
        self.assertEqual(Program(text=TOWNS).kinds, Program(TOWNS).kinds)

    def test_results_are_tuples_throughout(self):
        program = Program(ALL_FORMS)
        self.assertIs(type(program.kinds), tuple)
        self.assertIs(type(program.labels), tuple)
        self.assertIs(type(program.passes), int)
        for kind in program.kinds:
            self.assertEqual([type(part) for part in kind], [str, str, tuple])
            self.assertIs(type(kind), tuple)

    def test_the_class_is_defined_in_its_file(self):
        self.assertEqual(Program.__module__, "handkept.programs")
        self.assertIn("__eq__", vars(Program))
        self.assertIn("__init__", vars(Program))


class Equality(unittest.TestCase):
    def test_equal_by_text(self):
        self.assertTrue(Program(TOWNS) == Program(TOWNS))
        self.assertFalse(Program(TOWNS) != Program(TOWNS))

    def test_unequal_by_text(self):
        other = Program("kind a\npass\npass")
        self.assertFalse(Program("kind a\npass") == other)
        self.assertTrue(Program("kind a\npass") != other)

    def test_equal_to_no_text_and_no_other_value(self):
        program = Program(TOWNS)
        for value in (TOWNS, program.kinds, (program,), [program], *ODD_VALUES):
            self.assertFalse(program == value)
            self.assertFalse(value == program)
            self.assertTrue(program != value)


class NoStrings(unittest.TestCase):
    def test_what_is_no_string_has_no_line(self):
        for value in (*ODD_VALUES, b"kind a\npass", ("kind a\npass",), *nested(30)):
            with self.subTest(value=value):
                with self.assertRaises(BadText) as caught:
                    Program(value)
                self.assertIs(type(caught.exception.line), int)
                self.assertEqual(caught.exception.line, 0)

    def test_what_is_passed_stays(self):
        value = ["kind a", {"pass": []}]
        with self.assertRaises(BadText):
            Program(value)
        self.assertEqual(value, ["kind a", {"pass": []}])


class Names(unittest.TestCase):
    def test_names_may_be_words_of_the_language(self):
        words = ("line", "head", "set", "if", "else", "kind", "pass", "in", "is", "cell", "begin", "open", "close",
                 "end", "field", "key")
        for word in words:
            field = "owner" if word == "key" else word
            text = "\n".join([
                f"kind {word}", f"  field {field}", f"kind x in {word}", "pass", f"  cell {word} 2",
                f"  open {word}", f"    line {word} {word} {word}.key {word}.{field}",
                f"    if {word}.{field} is {word}", f"      set {word} 1",
                f"    if {word} = 1", f"      head h {word} {word}.key {word}",
                f"  close {word}", "    line b w", "  open x", f"    line c {word}.key"])
            with self.subTest(word):
                self.assertEqual(Program(text).kinds, ((word, "", (field,)), ("x", word, ())))
                self.assertEqual(Program(text).labels, (word, "h", "b", "c"))

    def test_names_that_need_not_differ(self):
        text = "\n".join([
            "kind a", "  field a", "  field b", "kind b in a", "  field a", "  field b", "pass", "  cell a 2",
            "  cell b 2", "  open a", "    line a a.a", "pass", "  cell a 3", "  cell b 2", "  open b",
            "    line b b.a a.b"])
        self.assertEqual(Program(text).kinds, (("a", "", ("a", "b")), ("b", "a", ("a", "b"))))

    def test_a_kind_may_be_called_key(self):
        program = program_with(("open key", "line l key.key"), kinds=("kind key",))
        self.assertEqual(program.kinds, (("key", "", ()),))


class Bounds(unittest.TestCase):
    """Each bound is reached here; test_bad_texts goes one beyond."""

    def test_kinds(self):
        kinds = ("kind a", "kind b", "kind c", "kind d")
        self.assertEqual(len(program_with(kinds=kinds).kinds), 4)

    def test_kinds_in_one_another(self):
        kinds = ("kind a", "kind b in a", "kind c in b", "kind d in b")
        program = program_with(("open c", "line l a.key b.key c.key"), kinds=kinds)
        self.assertEqual([outer for _, outer, _ in program.kinds], ["", "a", "b", "b"])

    def test_fields(self):
        program = program_with(kinds=("kind a", "  field x", "  field y"))
        self.assertEqual(program.kinds, (("a", "", ("x", "y")),))

    def test_cells_and_their_worths(self):
        lines = ["kind a", "pass", "  cell c 2", "  cell d 3", "  begin", "    set c 0", "    set c 1",
                 "    set d 0", "    set d 1", "    set d 2", "  end", "    if c = 1", "      line l w",
                 "    if d = 2", "      line m w"]
        self.assertEqual(Program("\n".join(lines)).labels, ("l", "m"))

    def test_statements_of_each_block(self):
        for heading in ("begin", "open a", "close a", "open b", "close b", "end"):
            six = [f"line {label} w" for label in "fedcba"]
            with self.subTest(heading):
                self.assertEqual(program_with((heading, *six)).labels, tuple("fedcba"))

    def test_statements_of_an_if_and_its_else(self):
        lines = ["if a.x is w", *[f"  line {label} w" for label in "abcdef"],
                 "else", *[f"  line {label} w" for label in "ghijkl"]]
        self.assertEqual(program_with(("open a", *lines)).labels, tuple("abcdefghijkl"))

    def test_an_if_with_its_else_is_one_statement(self):
        lines = []
        for label in "abcdef":
            lines += ["if a.x is w", f"  line {label} w", "else", f"  line {label * 2} w"]
        self.assertEqual(len(program_with(("open a", *lines)).labels), 12)

    def test_ifs_in_one_another(self):
        inner = ["  if a.y is v", "    line {0}a w", "  else", "    line {0}b w"]
        lines = ["if a.x is w", *[line.format("x") for line in inner], "else", *[line.format("y") for line in inner]]
        self.assertEqual(program_with(("open a", *lines)).labels, ("xa", "xb", "ya", "yb"))

    def test_tokens(self):
        program = program_with(("open a", "line l a b c d e f", "head h a a b c d e a.x", "head i - u", "line m a.y"))
        self.assertEqual(program.labels, ("l", "h", "i", "m"))

    def test_letters(self):
        word = "abcdefgz"
        lines = [f"kind {word}", f"  field {word}", "pass", f"  cell {word} 2", f"  open {word}",
                 f"    line {word} {word} {word}.{word} a", f"    if {word}.{word} is {word}", f"      set {word} 1"]
        self.assertEqual(Program("\n".join(lines)).labels, (word,))


class Refs(unittest.TestCase):
    def test_of_this_kind_and_those_that_it_is_in(self):
        for place in ("open", "close"):
            for kind, refs in (("a", "a.key a.x a.y"), ("b", "b.key a.key a.x a.y"), ("c", "c.key")):
                with self.subTest(place, kind=kind):
                    self.assertEqual(program_with((f"{place} {kind}", f"line l {refs}")).labels, ("l",))
                    for ref in refs.split():
                        test = f"if {ref} is w", "  line l w"
                        self.assertEqual(program_with((f"{place} {kind}", *test)).labels, ("l",))

    def test_heads_of_open_kinds_and_of_none(self):
        for place in ("open", "close"):
            for kind, heads in (("a", "a-"), ("b", "ab-"), ("c", "c-")):
                for head in heads:
                    with self.subTest(place, kind=kind, head=head):
                        self.assertEqual(program_with((f"{place} {kind}", f"head l {head} w")).labels, ("l",))

    def test_heads_of_none_in_begin_and_end(self):
        program = program_with(("begin", "head l - w"), ("end", "head m - w"))
        self.assertEqual(program.labels, ("l", "m"))

    def test_the_text_is_kept_as_it_is(self):
        text = text_with(("begin", "head l - w"))
        self.assertEqual(Program(text).text, text)


if __name__ == "__main__":
    unittest.main()
