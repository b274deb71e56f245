import unittest

from handkept.models import text_of, written
from handkept.programs import Program

from tests.samples import TOWNS, program_with

TWO_TOWNS = (
    ("town", ("rome",), (("shop", ("a", "bo"), ()),)),
    ("town", ("pisa",), (("shop", ("a", "cy"), ()),)),
)


def a(key, x="x", y="y", *inner):
    return ("a", (key, x, y), inner)


def b(key):
    return ("b", (key,), ())


def c(key):
    return ("c", (key,), ())


class Examples(unittest.TestCase):
    def test_the_example_of_the_document(self):
        program = Program('\n'.join([
            'kind town', 'kind shop in town', '  field owner', 'pass', '  open town', '    line t town.key',
            '  open shop', '    line s shop.key shop.owner']))
        model = (('town', ('rome',), (('shop', ('a', 'bo'), ()),)), ('town', ('pisa',), (('shop', ('a', 'cy'), ()),)))
        self.assertEqual(
            [text_of(program, model), written(program, model)[1][0], written(program, model)[2]],
            ['rome\na bo\npisa\na cy', ('s', (('town', 'rome'), ('shop', 'a'))),
             (('t', (('town', 'pisa'),)), ('pisa',))])

    def test_arguments_by_name(self):
        program = Program(TOWNS)
        self.assertEqual(written(program=program, model=TWO_TOWNS), written(program, TWO_TOWNS))
        self.assertEqual(text_of(model=TWO_TOWNS, program=program), text_of(program, TWO_TOWNS))

    def test_results_are_tuples_throughout(self):
        lines = written(Program(TOWNS), TWO_TOWNS)
        self.assertIs(type(lines), tuple)
        for line in lines:
            (label, path), words = line
            self.assertEqual([type(part) for part in (line, line[0], label, path, words)], [tuple, tuple, str, tuple, tuple])
            self.assertTrue(all(type(pair) is tuple for pair in path))

    def test_equal_calls_give_equal_results(self):
        program = program_with(("open a", "if a.x is x", "  line l a.key"))
        self.assertEqual(written(program, (a("k"),)), written(program, (a("k"),)))


class Sequence(unittest.TestCase):
    def test_nothing_is_written(self):
        for model in ((), (a("k"),)):
            self.assertEqual(written(program_with(), model), ())
            self.assertEqual(text_of(program_with(), model), "")

    def test_begin_and_end_of_a_model_without_records(self):
        program = program_with(("begin", "line l u", "head m - v w"), ("open a", "line n a.key"), ("end", "line o x"))
        self.assertEqual(written(program, ()), (
            (("l", ()), ("u",)), (("m", ()), ("v", "w")), (("o", ()), ("x",))))
        self.assertEqual(text_of(program, ()), "u\nv w\nx")

    def test_open_inner_row_close(self):
        program = program_with(
            ("begin", "line begin begin"), ("open a", "line oa open a.key"), ("close a", "line ca close a.key"),
            ("open b", "line ob open b.key a.key"), ("close b", "line cb close b.key a.key"),
            ("open c", "line oc open c.key"), ("close c", "line cc close c.key"), ("end", "line end end"))
        model = (c("z"), a("k", "x", "y", b("q"), b("p")), c("m"), a("j"))
        self.assertEqual(written(program, model), (
            (("begin", ()), ("begin",)),
            (("oc", (("c", "z"),)), ("open", "z")),
            (("cc", (("c", "z"),)), ("close", "z")),
            (("oa", (("a", "k"),)), ("open", "k")),
            (("ob", (("a", "k"), ("b", "q"))), ("open", "q", "k")),
            (("cb", (("a", "k"), ("b", "q"))), ("close", "q", "k")),
            (("ob", (("a", "k"), ("b", "p"))), ("open", "p", "k")),
            (("cb", (("a", "k"), ("b", "p"))), ("close", "p", "k")),
            (("ca", (("a", "k"),)), ("close", "k")),
            (("oc", (("c", "m"),)), ("open", "m")),
            (("cc", (("c", "m"),)), ("close", "m")),
            (("oa", (("a", "j"),)), ("open", "j")),
            (("ca", (("a", "j"),)), ("close", "j")),
            (("end", ()), ("end",))))
        self.assertEqual(
            text_of(program, model),
            "begin\nopen z\nclose z\nopen k\nopen q k\nclose q k\nopen p k\nclose p k\nclose k\n"
            "open m\nclose m\nopen j\nclose j\nend")

    def test_kinds_three_deep(self):
        program = program_with(
            ("close b", "line l a.key b.key"), ("open c", "line m a.key b.key c.key", "head n a c.key", "head o b c.key"),
            kinds=("kind a", "kind b in a", "kind c in b"))
        model = (("a", ("x",), (("b", ("y",), (("c", ("z",), ()),)),)),)
        path = (("a", "x"), ("b", "y"), ("c", "z"))
        self.assertEqual(written(program, model), (
            (("m", path), ("x", "y", "z")), (("n", path[:1]), ("z",)), (("o", path[:2]), ("z",)), (("l", path[:2]), ("x", "y"))))

    def test_passes_one_behind_the_other(self):
        program = Program(
            "kind a\npass\n  begin\n    line l first\n  open a\n    line m a.key\n"
            "pass\n  open a\n    line n again a.key\n  end\n    line o last")
        self.assertEqual(text_of(program, (("a", ("k",), ()), ("a", ("j",), ()))), "first\nk\nj\nagain k\nagain j\nlast")

    def test_a_pass_with_nothing_below_it(self):
        model = (("a", ("k",), ()),)
        for text in ("kind a\npass\npass\n  open a\n    line l a.key", "kind a\npass\n  open a\n    line l a.key\npass"):
            self.assertEqual(written(Program(text), model), ((("l", (("a", "k"),)), ("k",)),))

    def test_fields_and_words(self):
        program = program_with(("close a", "line l a.y key a.key a.x a.x x"))
        self.assertEqual(text_of(program, (a("k", "u", "v"),)), "v key k u u x")


class Heads(unittest.TestCase):
    def test_ways_of_lines_and_heads(self):
        program = program_with(
            ("begin", "head g - g"), ("open b", "line l b.key", "head m b b.key", "head n a b.key a.key", "head o - b.key"),
            ("close b", "line p b.key", "head q a a.x"), ("end", "head r - r"))
        here = (("a", "k"), ("b", "j"))
        self.assertEqual([way for way, _ in written(program, (a("k", "x", "y", b("j")),))], [
            ("g", ()), ("l", here), ("m", here), ("n", here[:1]), ("o", ()), ("p", here), ("q", here[:1]), ("r", ())])

    def test_a_head_may_come_more_often_for_one_way(self):
        program = program_with(("open b", "head l a b.key", "head m - b.key"))
        model = (a("k", "x", "y", b("i"), b("j")), a("l", "x", "y", b("i")))
        self.assertEqual(written(program, model), (
            (("l", (("a", "k"),)), ("i",)), (("m", ()), ("i",)),
            (("l", (("a", "k"),)), ("j",)), (("m", ()), ("j",)),
            (("l", (("a", "l"),)), ("i",)), (("m", ()), ("i",))))

    def test_a_heading_at_the_first_of_several(self):
        program = Program(
            "kind town\nkind shop in town\npass\n  cell any 2\n  open town\n    set any 0\n"
            "  close town\n    if any = 0\n      line none no shops\n"
            "  open shop\n    if any = 0\n      head shops town shops of town.key\n      set any 1\n    line shop shop.key")
        shops = tuple(("shop", (key,), ()) for key in "ab")
        model = (("town", ("rome",), shops), ("town", ("pisa",), ()), ("town", ("bari",), shops[:1]))
        self.assertEqual(text_of(program, model), "shops of rome\na\nb\nno shops\nshops of bari\na")
        self.assertEqual(written(program, model)[0][0], ("shops", (("town", "rome"),)))


class Cells(unittest.TestCase):
    def test_cells_are_kept_from_block_to_block(self):
        text = ("kind a\npass\n  cell c 3\n  begin\n    set c 1\n  open a\n    if c = 1\n      line l one\n      set c 2\n"
                "    else\n      if c = 2\n        line m two\n        set c 0\n      else\n        line n none\n"
                "        set c 1\n  end\n    if c = 2\n      line o two\n    if c = 0\n      line p none")
        expected = ["", "one\ntwo", "one\ntwo\nnone", "one\ntwo\nnone", "one\ntwo\nnone\none\ntwo"]
        for many, expect in enumerate(expected):
            model = tuple(("a", (key,), ()) for key in "abcd"[:many])
            self.assertEqual(text_of(Program(text), model), expect)

    def test_cells_are_0_at_the_beginning_of_each_pass(self):
        text = "kind a\npass" + "\npass".join(
            f"\n  cell c 2\n  cell d 3\n  begin\n    if c = 0\n      line c{x} c none\n    else\n      line b{x} c one\n"
            f"    if d = 0\n      line d{x} d none\n    set c 1\n    set d 2\n"
            f"  end\n    if c = 1\n      line e{x} c one\n    if d = 2\n      line f{x} d two"
            for x in "xy")
        self.assertEqual(text_of(Program(text), ()), "\n".join(["c none\nd none\nc one\nd two"] * 2))

    def test_cells_are_set_for_each_writing_anew(self):
        program = Program("kind a\npass\n  cell c 2\n  begin\n    if c = 0\n      line l none\n    set c 1")
        self.assertEqual([text_of(program, ()) for _ in range(3)], ["none"] * 3)

    def test_two_cells_are_told_apart(self):
        text = ("kind a\npass\n  cell c 2\n  cell d 2\n  begin\n    set d 1\n    if c = 1\n      line l c\n"
                "    if d = 1\n      line m d\n    set c 1\n    set d 0\n  end\n    if c = 1\n      line n c\n"
                "    if d = 1\n      line o d")
        self.assertEqual(text_of(Program(text), ()), "d\nc")

    def test_a_set_counts_from_the_next_statement_on(self):
        text = ("kind a\npass\n  cell c 2\n  begin\n    if c = 0\n      set c 1\n      if c = 0\n        line l wrong\n"
                "      else\n        line m right\n    else\n      line n wrong\n    if c = 1\n      line o right")
        self.assertEqual(text_of(Program(text), ()), "right\nright")


class Tests(unittest.TestCase):
    def test_tests_of_words_with_else(self):
        program = program_with(
            ("open a", "if a.x is yes", "  line l a.key yes", "else", "  line m a.key no",
             "if a.key is k", "  line n key", "if a.y is yes", "  if a.x is yes", "    line o both", "  else",
             "    line p one"))
        self.assertEqual(text_of(program, (a("k", "yes", "yes"),)), "k yes\nkey\nboth")
        self.assertEqual(text_of(program, (a("j", "no", "yes"),)), "j no\none")
        self.assertEqual(text_of(program, (a("k", "ye", "no"),)), "k no\nkey")

    def test_tests_of_a_record_around(self):
        program = program_with(
            ("open b", "if a.key is k", "  line l in a.key", "else", "  line m out a.key"),
            ("close b", "if a.y is b", "  if b.key is q", "    line n b.key", "  else", "    line o other"))
        model = (a("k", "x", "b", b("q"), b("r")), a("j", "x", "y", b("q")))
        self.assertEqual(text_of(program, model), "in k\nq\nin k\nother\nout j")

    def test_what_stands_behind_an_if_is_written_all_the_same(self):
        program = program_with(("open a", "if a.x is yes", "  line l yes", "line m behind"))
        self.assertEqual([text_of(program, (a("k", x),)) for x in ("yes", "no")], ["yes\nbehind", "behind"])


if __name__ == "__main__":
    unittest.main()
