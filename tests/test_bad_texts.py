import random
import unittest

from handkept.errors import BadText
from handkept.programs import Program

from tests.samples import TOWNS
from tests.test_programs import ALL_FORMS


def wrong_line(text):
    """The line that BadText tells, None if the text is right."""
    try:
        Program(text)
    except BadText as error:
        return error.line
    return None


class Refused(unittest.TestCase):
    def refused(self, *cases):
        """Each case is a text with | between its lines and * ahead of the wrong one; without * lines are missing."""
        for case in cases:
            lines = case.split("|")
            marked = [number for number, line in enumerate(lines) if line.startswith("*")] or [len(lines)]
            lines = [line.removeprefix("*") for line in lines]
            with self.subTest(case):
                self.assertEqual(wrong_line("\n".join(lines)), marked[0] + 1)
                # All lines ahead of the wrong one are the beginning of a right text.
                self.assertIn(wrong_line("\n".join(lines[:marked[0]])), (None, marked[0] + 1) if marked[0] else (1,))

    def test_empty_lines(self):
        self.assertEqual(wrong_line(""), 1)
        self.assertEqual(wrong_line("\n"), 1)
        self.refused("kind a|pass|*", "kind a|*|pass", "*|kind a|pass", "kind a|pass|  begin|    line l w|*",
                     "kind a|pass|  begin|*|    line l w", "kind a|pass|*  ", "kind a|pass|  begin|*    ")

    def test_line_feed_at_the_end(self):
        self.assertEqual(wrong_line(TOWNS), None)
        self.assertEqual(wrong_line(TOWNS + "\n"), 9)
        self.assertEqual(wrong_line("kind a\npass\n\n"), 3)

    def test_missing_lines(self):
        self.refused(
            "kind a", "kind a|  field x", "kind a|pass|  begin", "kind a|pass|  open a", "kind a|pass|  close a",
            "kind a|pass|  end", "kind a|pass|  open a|    if a.key is w", "kind a|pass|pass|  end",
            "kind a|pass|  open a|    if a.key is w|      line l w|    else",
            "kind a|pass|  open a|    if a.key is w|      if a.key is w")

    def test_blanks(self):
        self.refused("* kind a|pass", "*  kind a|pass", "*kind  a|pass", "*kind a |pass", "kind a|*pass |  end",
                     "kind a|* pass", "kind a|pass|* begin|    line l w", "kind a|pass|*   begin|    line l w",
                     "kind a|pass|  begin|*    line  l w", "kind a|pass|  begin|*    line l  w",
                     "kind a|pass|  begin|*    line l w ", "kind a|pass|*  begin |    line l w",
                     "kind a|pass|  begin|*     line l w", "kind a|pass|  begin|*   line l w",
                     "kind a|*  field x |pass", "kind a|* field x|pass", "kind a|*   field x|pass",
                     "kind a|kind b|*kind c in  a|pass")

    def test_tabs(self):
        self.refused("*kind\ta|pass", "*\tkind a|pass", "*kind a\t|pass", "kind a|*pass\t", "kind a|*\tfield x|pass",
                     "kind a|pass|*\tbegin|\t\tline l w", "kind a|pass|  begin|*    line l\tw",
                     "kind a|pass|  begin|*  \tline l w", "kind a|pass|  begin|*    line l w\tv")

    def test_other_lines(self):
        self.refused("*kinds a|pass", "*Kind a|pass", "*# a|pass", "*pass", "*field x", "*begin", "kind a|*begin",
                     "kind a|pass|  begin|*    lines l w", "kind a|pass|  begin|*    Line l w",
                     "kind a|pass|*  start|    line l w", "kind a|pass|  begin|*    else|      line l w",
                     "kind a|pass|*  line l w", "kind a|pass|  begin|*    cell c 2", "kind a|pass|*  field x",
                     "kind a|pass|  begin|    line l w|*end|    line m w")

    def test_kinds(self):
        self.refused(
            "*kind|pass", "*kind a b|pass", "*kind a in|pass", "kind a|*kind b in a c|pass",
            "kind a|*kind b of a|pass", "*kind a in a|pass", "*kind b in a|kind a|pass", "kind a|*kind b in c|pass",
            "kind a|*kind a|pass", "kind a|kind b|*kind a in b|pass", "*kind A|pass", "*kind a1|pass",
            "*kind -|pass", "*kind a.b|pass", "kind a|*kind b in -|pass")

    def test_kinds_behind_a_pass(self):
        self.refused("kind a|pass|*kind b", "kind a|pass|  begin|    line l w|*kind b|pass", "kind a|pass|*  kind b")

    def test_fields(self):
        self.refused("kind a|*  field|pass", "kind a|*  field x y|pass", "kind a|*  field key|pass",
                     "kind a|  field x|*  field x|pass", "kind a|*  field X|pass", "kind a|*  field x1|pass",
                     "kind a|*  fields x|pass", "kind a|*    field x|pass", "kind a|  field x|*    field y|pass",
                     "*  field x|kind a|pass", "kind a|*  kind b in a|pass", "kind a|kind b|*  field key|pass")

    def test_cells(self):
        self.refused("kind a|pass|*  cell c", "kind a|pass|*  cell c 2 2", "kind a|pass|*  cell C 2",
                     "kind a|pass|  cell c 2|*  cell c 3", "kind a|pass|*  cell 2 c", "kind a|pass|*    cell c 2",
                     "kind a|pass|*cell c 2")

    def test_worths_of_cells(self):
        for worth in ("1", "4", "0", "-2", "02", "two", "2.0", "22"):
            self.refused(f"kind a|pass|*  cell c {worth}")

    def test_set_and_tests_of_cells(self):
        ahead = "kind a|  field x|pass|  cell c 2|  cell d 3|  open a|"
        for wrong in ("set c 2", "set d 3", "set e 0", "set c", "set c 0 1", "set c 00", "set c -1", "set c x",
                      "set a.x 0", "set 0 c", "set c = 1", "if c = 2", "if d = 3", "if e = 0", "if c is w", "if c = w",
                      "if c 0", "if c = 0 1", "if = c 0", "if c == 0", "if a.x = 0", "if a.x = w", "if a.x was w",
                      "if a.x == w", "if a.x is 0",
                      "put c 0", "Set c 0", "if c", "if"):
            self.refused(f"{ahead}*    {wrong}|      line l w")

    def test_cells_are_those_of_this_pass(self):
        self.refused("kind a|pass|  cell c 2|pass|  begin|*    set c 0",
                     "kind a|pass|  begin|*    set c 0|pass|  cell c 2",
                     "kind a|pass|  cell c 3|pass|  cell c 2|  begin|*    set c 2",
                     "kind a|pass|  cell c 3|pass|  cell c 2|  begin|*    if c = 2|      line l w")

    def test_lines_out_of_their_sequence(self):
        one, two = "    line l w", "    line m w"
        self.refused(f"kind a|pass|  begin|{one}|*  cell c 2", f"kind a|pass|  open a|{one}|*  begin|{two}",
                     f"kind a|pass|  close a|{one}|*  open a|{two}", f"kind a|pass|  end|{one}|*  open a|{two}",
                     f"kind a|pass|  end|{one}|*  close a|{two}", f"kind a|pass|  end|{one}|*  begin|{two}",
                     f"kind a|pass|  end|{one}|*  cell c 2",
                     f"kind a|kind b|pass|  open b|{one}|*  open a|{two}",
                     f"kind a|kind b|pass|  open b|{one}|*  close a|{two}",
                     f"kind a|kind b|pass|  close b|{one}|*  close a|{two}",
                     f"kind a|kind b in a|pass|  open a|{one}|  open b|{two}|*  close a|    line n w")

    def test_the_same_block_twice(self):
        for block in ("begin", "open a", "close a", "end"):
            self.refused(f"kind a|pass|  {block}|    line l w|*  {block}|    line m w")

    def test_headings_of_blocks(self):
        for heading in ("begin a", "open", "close", "open b", "close b", "open a a", "end a", "open -", "open A"):
            self.refused(f"kind a|pass|*  {heading}|    line l w")

    def test_one_too_many(self):
        six = "|".join(f"    line {label} w" for label in "abcdef")
        below = six.replace("    ", "      ")
        self.refused("kind a|kind b|kind c|kind d|*kind e|pass", "kind a|kind b in a|kind c in b|*kind d in c|pass",
                     "kind a|  field x|  field y|*  field z|pass", "kind a|pass|pass|*pass",
                     "kind a|pass|  cell c 2|  cell d 2|*  cell e 2")
        for block in ("begin", "open a", "close a", "end"):
            self.refused(f"kind a|pass|  {block}|{six}|*    line l w")
        self.refused(f"kind a|pass|  open a|    if a.key is w|{below}|*      line l w",
                     f"kind a|pass|  open a|    if a.key is w|      line l w|    else|{below}|*      line m w",
                     f"kind a|pass|  open a|{six}|*    if a.key is w|      line l w")

    def test_too_many_ifs_in_one_another(self):
        two = "kind a|pass|  open a|    if a.key is u|      if a.key is v|"
        lower = "kind a|pass|  open a|    if a.key is u|      line l w|    else|      if a.key is v|"
        self.refused(f"{two}*        if a.key is w|          line m w",
                     f"{two}        line m w|      else|*        if a.key is w|          line n w",
                     f"{lower}*        if a.key is w|          line m w",
                     f"{lower}        line m w|      else|*        if a.key is w|          line n w")

    def test_tokens(self):
        self.refused(
            "kind a|pass|  begin|*    line l", "kind a|pass|  begin|*    line", "kind a|pass|  begin|*    head l -",
            "kind a|pass|  begin|*    head l", "kind a|pass|  begin|*    line l a b c d e f g",
            "kind a|pass|  begin|*    head l - a b c d e f g", "kind a|pass|  begin|*    line l A",
            "kind a|pass|  begin|*    line l a1", "kind a|pass|  begin|*    line l -",
            "kind a|pass|  begin|*    line l a.", "kind a|pass|  begin|*    line l a,b",
            "kind a|pass|  begin|*    head l w w", "kind a|pass|  begin|*    line L w",
            "kind a|pass|  begin|*    line - w", "kind a|pass|  begin|*    head - - w",
            "kind a|pass|  begin|*    head - l w")

    def test_letters(self):
        nine = "abcdefghi"
        self.refused(
            f"*kind {nine}|pass", f"kind a|*  field {nine}|pass", f"kind a|pass|*  cell {nine} 2",
            f"kind a|pass|  begin|*    line {nine} w", f"kind a|pass|  begin|*    line l {nine}",
            f"kind a|pass|  begin|*    head {nine} - w", f"kind a|pass|  begin|*    head l - {nine}",
            f"kind a|pass|  open a|*    if a.key is {nine}|      line l w", f"kind a|*kind b in {nine}|pass",
            "kind a|pass|  open a|*    if a.key is W|      line l w",
            "kind a|pass|  open a|*    if a.key is a.key|      line l w")

    def test_blocks_with_nothing_below_them(self):
        self.refused(
            "kind a|pass|  begin|*  end|    line l w", "kind a|pass|  begin|*pass",
            "kind a|pass|  open a|*  close a|    line l w", "kind a|pass|  begin|*line l w",
            "kind a|pass|  begin|*  line l w", "kind a|pass|  begin|*      line l w",
            "kind a|pass|  open a|    if a.key is w|*    line l w",
            "kind a|pass|  open a|    if a.key is w|*    else|      line l w",
            "kind a|pass|  open a|    if a.key is w|*  close a|    line l w",
            "kind a|pass|  open a|    if a.key is w|      line l w|    else|*    line m w",
            "kind a|pass|  open a|    if a.key is w|      line l w|    else|*pass")

    def test_too_deep_and_not_deep_enough(self):
        self.refused(
            "kind a|*  pass", "kind a|pass|*begin|    line l w", "kind a|pass|*    begin|      line l w",
            "kind a|pass|  begin|    line l w|*      line m w", "kind a|pass|  begin|    line l w|*  line m w",
            "kind a|pass|  begin|    line l w|*line m w",
            "kind a|pass|  open a|    if a.key is w|*        line l w",
            "kind a|pass|  open a|    if a.key is w|      line l w|*        line m w")

    def test_else(self):
        yes = "kind a|pass|  open a|    if a.key is w|      line l w|"
        self.refused(
            "kind a|pass|  begin|*    else|      line l w",
            "kind a|pass|  begin|    line l w|*    else|      line m w",
            f"{yes}    else|      line m w|*    else|      line n w", f"{yes}*      else|        line m w",
            f"{yes}*  else|    line m w", f"{yes}*else", f"{yes}*    else w|      line m w",
            f"{yes}    line m w|*    else|      line n w", f"{yes}*    else if a.key is w|      line m w",
            f"{yes}  close a|*    else|      line m w")

    def test_labels_that_do_not_differ(self):
        self.refused(
            "kind a|pass|  begin|    line l w|*    line l v", "kind a|pass|  begin|    line l w|*    head l - v",
            "kind a|pass|  begin|    line l w|  end|*    line l w",
            "kind a|pass|  begin|    line l w|pass|  begin|*    line l w",
            "kind a|pass|  open a|    if a.key is w|      line l w|    else|*      line l w")

    def test_refs_and_heads_that_are_not_open(self):
        kinds = "kind a|  field x|kind b in a|  field y|kind c in a|kind d|pass"
        near = {"begin": "", "open a": "a", "close a": "a", "open b": "ab", "close b": "ab", "open c": "ac",
                "close c": "ac", "open d": "d", "close d": "d", "end": ""}
        for heading, kinds_near in near.items():
            for kind in "abcde":
                if kind not in kinds_near:
                    self.refused(
                        f"{kinds}|  {heading}|*    line l {kind}.key",
                        f"{kinds}|  {heading}|*    line l w {kind}.key",
                        f"{kinds}|  {heading}|*    head l {kind} w",
                        f"{kinds}|  {heading}|*    head l - {kind}.key",
                        f"{kinds}|  {heading}|*    if {kind}.key is w|      line l w")

    def test_refs_of_fields_that_there_are_not(self):
        for ref in ("a.y", "a.z", "b.x", "a.", ".x", ".", "a.x.x", "a.key.x", "a..x", "a.Key", "a.X", "a:x",
                    "b.key.", "-.x"):
            self.refused(f"kind a|  field x|kind b in a|  field y|pass|  open b|*    line l {ref}",
                         f"kind a|  field x|kind b in a|  field y|pass|  open b|*    if {ref} is w|      line l w")


class Hurt(unittest.TestCase):
    """Right texts that were hurt at some lines."""

    def test_the_wrong_line_hangs_on_the_lines_up_to_it_alone(self):
        source = random.Random(5)
        for _ in range(3000):
            lines = hurt(source, ALL_FORMS.split("\n"))
            number = wrong_line("\n".join(lines))
            if number is None:
                continue
            self.assertTrue(1 <= number <= len(lines) + 1, lines)
            if number <= len(lines):
                self.assertEqual(wrong_line("\n".join(lines[:number])), number, lines)
                self.assertEqual(wrong_line("\n".join(lines[:number] + ["x", "kind a"])), number, lines)
            if number > 1:
                self.assertIn(wrong_line("\n".join(lines[:number - 1])), (None, number), lines)


def hurt(source, lines):
    for _ in range(source.randint(1, 3)):
        at, other = source.randrange(len(lines)), source.randrange(len(lines))
        change = source.randrange(5)
        if change == 0:
            del lines[at]
        elif change == 1:
            lines.insert(at, lines[other])
        elif change == 2:
            lines[at], lines[other] = lines[other], lines[at]
        elif change == 3:
            lines[at] = source.choice(["  ", " ", "\t"]) + lines[at]
        else:
            words = lines[at].split(" ")
            words[source.randrange(len(words))] = source.choice(["a", "kind", "3", "town", "", "shop.key", "-", "is"])
            lines[at] = " ".join(words)
    return lines


if __name__ == "__main__":
    unittest.main()
