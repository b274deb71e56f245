import itertools
import unittest

from handkept.errors import BadModel, BadText
from handkept.models import is_model
from handkept.programs import Program
from handkept.texts import read_model, show_model

from tests.drawn import Drawing
from tests.questions import KEYS, TOWN
from tests.samples import ODD_VALUES, nested
from tests.search import models

DRAWN = 60
DEEP = Program("kind a\nkind b in a\nkind c in b\n  field x\n  field y\nkind d\npass")
SAME = Program("kind a\n  field x\nkind b in a\n  field x\nkind c in a\n  field x\npass")


def text(*lines):
    return "\n".join(lines)


def shop(key, owner="bo"):
    return ("shop", (key, owner), ())


TOWNS = text("town rome", "  shop a bo", "  shop b cy", "town pisa", "  shop a di")
MODEL = (("town", ("rome",), (shop("a"), shop("b", "cy"))), ("town", ("pisa",), (shop("a", "di"),)))

# A text of models of a program and the model, or the number of its first wrong line.
READ = {
    "nothing": (TOWN, "", ()),
    "one record": (TOWN, "town rome", (("town", ("rome",), ()),)),
    "records in records": (TOWN, TOWNS, MODEL),
    "the same key in another row": (TOWN, text("town a", "  shop a a", "town b", "  shop a a"), (
        ("town", ("a",), (shop("a", "a"),)), ("town", ("b",), (shop("a", "a"),)))),
    "the same key of another kind": (DEEP, text("a k", "d k"), (("a", ("k",), ()), ("d", ("k",), ()))),
    "kinds that are mixed": (SAME, text("a k u", "  c k v", "  b k v", "  c m v"), (
        ("a", ("k", "u"), (("c", ("k", "v"), ()), ("b", ("k", "v"), ()), ("c", ("m", "v"), ()))),)),
    "three in one another": (DEEP, text("a k", "  b l", "    c m u v", "    c n u u", "  b m", "d k"), (
        ("a", ("k",), (("b", ("l",), (("c", ("m", "u", "v"), ()), ("c", ("n", "u", "u"), ()))), ("b", ("m",), ()))),
        ("d", ("k",), ()))),
    "words that are kinds": (TOWN, text("town town", "  shop town shop"), (("town", ("town",), (shop("town", "shop"),)),)),
    "an empty line": (TOWN, "\n", 1),
    "an empty line at the end": (TOWN, text("town rome", ""), 2),
    "two empty lines at the end": (TOWN, text("town rome", "", ""), 2),
    "an empty line ahead": (TOWN, text("", "town rome"), 1),
    "an empty line between": (TOWN, text("town rome", "", "town pisa"), 2),
    "a line of blanks": (TOWN, text("town rome", "  "), 2),
    "a line of four blanks": (TOWN, text("town rome", "    "), 2),
    "blanks alone": (TOWN, " ", 1),
    "two blanks alone": (TOWN, "  ", 1),
    "a blank at an end": (TOWN, text("town rome", "town pisa "), 2),
    "a blank that is doubled": (TOWN, text("town rome", "  shop a  bo"), 2),
    "a blank at the end of a kind": (TOWN, "town ", 1),
    "one blank deeper": (TOWN, text("town rome", " shop a bo"), 2),
    "three blanks deeper": (TOWN, text("town rome", "   shop a bo"), 2),
    "two blanks too deep": (TOWN, text("town rome", "    shop a bo"), 2),
    "two blanks too deep, at first": (TOWN, "  town rome", 1),
    "one blank deeper behind a deeper line": (TOWN, text("town rome", "  shop a bo", " shop b bo"), 3),
    "two blanks deeper than what has no kind in it": (TOWN, text("town rome", "  shop a bo", "    shop b bo"), 3),
    "a tab ahead": (TOWN, text("town rome", "\tshop a bo"), 2),
    "a tab between": (TOWN, text("town rome", "  shop a\tbo"), 2),
    "a tab at the end": (TOWN, "town rome\t", 1),
    "a capital": (TOWN, text("town rome", "  shop A bo"), 2),
    "a capital in a kind": (TOWN, "Town rome", 1),
    "a digit": (TOWN, "town rome1", 1),
    "a long word": (TOWN, text("town abcdefgh", "town abcdefghi"), 2),
    "a colon": (TOWN, "town:rome", 1),
    "a dash": (TOWN, "-", 1),
    "too few words": (TOWN, text("town rome", "  shop a"), 2),
    "a kind alone": (TOWN, "town", 1),
    "too many words": (TOWN, text("town rome", "  shop a bo cy"), 2),
    "too many words of a kind without fields": (TOWN, "town rome bo", 1),
    "no kind": (TOWN, text("town rome", "village pisa"), 2),
    "a kind that is in another one": (TOWN, text("town rome", "shop a bo"), 2),
    "a kind that is in none": (TOWN, text("town rome", "  town pisa"), 2),
    "a kind that is in one further out": (DEEP, text("a k", "  c m u v"), 2),
    "a key that stands there": (TOWN, text("town rome", "  shop a bo", "  shop b bo", "  shop a cy"), 4),
    "a key that stands there, of the models": (TOWN, text("town rome", "  shop a bo", "town pisa", "town rome", "  shop A"), 4),
    "a key that stands there, further in": (DEEP, text("a k", "  b l", "    c m u v", "  b m", "    c m u v", "    c m u v"), 6),
    "the first one of several": (TOWN, text("town rome", "  shop a", "town", "x"), 2),
}


class Shown(unittest.TestCase):
    def test_texts(self):
        for name, (program, own, model) in READ.items():
            if isinstance(model, tuple):
                self.assertTrue(is_model(program, model), name)
                self.assertEqual(show_model(program, model), own, name)

    def test_the_empty_model_is_the_empty_text(self):
        for program in (TOWN, KEYS, DEEP):
            self.assertEqual(show_model(program, ()), "")
            self.assertEqual(read_model(program, ""), ())

    def test_by_name(self):
        self.assertEqual(show_model(model=MODEL, program=TOWN), TOWNS)
        self.assertEqual(read_model(text=TOWNS, program=TOWN), MODEL)

    def test_what_is_no_model(self):
        for value in [*ODD_VALUES, *nested(30), list(MODEL), MODEL + MODEL[:1], (shop("a"),), TOWNS, (("town", ["rome"], ()),)]:
            if value != ():
                with self.assertRaises(BadModel) as caught:
                    show_model(TOWN, value)
                self.assertIs(caught.exception.value, value)


class Read(unittest.TestCase):
    def refused(self, program, own, line):
        with self.assertRaises(BadText) as caught:
            read_model(program, own)
        self.assertEqual(caught.exception.line, line, own)

    def test_texts(self):
        for name, (program, own, told) in READ.items():
            with self.subTest(name):
                if isinstance(told, tuple):
                    self.assertEqual(read_model(program, own), told)
                else:
                    self.refused(program, own, told)

    def test_what_is_no_string(self):
        for value in [*ODD_VALUES, *nested(30), MODEL, [TOWNS], (TOWNS,)]:
            self.refused(TOWN, value, 0)

    def test_what_is_shown_is_read_back(self):
        found = 0
        for number in range(DRAWN):
            drawing = Drawing(number)
            drawing.draw_kinds()
            program = drawing.program(2)
            for model in itertools.chain(*[models(program, many, ("p", "q")) for many in range(4)]):
                self.assertEqual(read_model(program, show_model(program, model)), model)
                found += 1
        self.assertGreater(found, 1000)

    def test_what_is_read_is_shown_so(self):
        # Lines hurt in one place: they are refused, or there is a model with just this text.
        own = text("a k u", "  b k v", "  c k v", "a m u", "  c m m")
        for at, letter in itertools.product(range(len(own) + 1), " \n\tabckX-:/1"):
            for hurt in (own[:at] + letter + own[at:], own[:at] + letter + own[at + 1:], own[:at] + own[at + 1:]):
                try:
                    model = read_model(SAME, hurt)
                except BadText as wrong:
                    # Up to this line it is the text of a model.
                    lines = hurt.split("\n")
                    ahead = lines[:wrong.line - 1]
                    self.assertEqual(show_model(SAME, read_model(SAME, text(*ahead))), text(*ahead))
                    if ahead:
                        self.refused(SAME, text(*lines[:wrong.line]), wrong.line)
                    continue
                self.assertEqual(show_model(SAME, model), hurt)


if __name__ == "__main__":
    unittest.main()
