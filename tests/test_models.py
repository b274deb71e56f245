import copy
import unittest

from handkept.errors import BadModel
from handkept.models import is_model, text_of, written
from handkept.programs import Program

from tests.samples import ODD_VALUES, nested

PROGRAM = Program(
    "kind town\nkind shop in town\n  field owner\n  field ware\nkind item in shop\nkind road\n  field end\npass")


def town(key, *inner):
    return ("town", (key,), inner)


def shop(key, *inner):
    return ("shop", (key, "bo", "hats"), inner)


MODELS = (
    (),
    (town("rome"),),
    (("road", ("a", "b"), ()),),
    (town("a"), town("b"), town("c")),
    (town("b"), ("road", ("x", "y"), ()), town("a")),
    (town("rome", shop("a"), shop("b", ("item", ("i",), ()), ("item", ("j",), ()))),),
    # The same key by unlike kinds, in unlike rows, and in one another.
    (town("a"), ("road", ("a", "a"), ())),
    (town("a", shop("a", ("item", ("a",), ()))),
     town("b", shop("a", ("item", ("a",), ())), shop("c", ("item", ("a",), ())))),
    # Words of 1 and of 8 letters, and words that are alike beside the key.
    (town("x"), town("abcdefgz"), ("road", ("zzzzzzzz", "a"), ()), ("road", ("a", "a"), ()), ("road", ("b", "a"), ())),
    (("town", ("a",), (("shop", ("key", "key", "key"), ()),)),),
)

ITEM = ("item", ("i",), ())

NO_WORDS = (
    "", "abcdefghi", "A", "Rome", "a1", "a b", " a", "a\n", "-", None, True, False, 0, 1, ("a",), ["a"], {}, {"a": 1})

# What stands in the place of a record.
NO_RECORDS = (
    *ODD_VALUES, (), "town", ("town", ("a",)), ("town", ("a",), (), ()), ["town", ("a",), ()], ("town", ["a"], ()),
    ("town", ("a",), []), ("town", ("a",), [shop("a")]), ("town", "a", ()), ("town", ("a",), None), ("town", ("a",), ""),
    ("town", ("a",), {}), ("town", {"a": 1}, ()), {"town": ("a",)}, (True, ("a",), ()), (None, ("a",), ()),
    (["town"], ("a",), ()), (("town",), ("a",), ()), ({}, ("a",), ()), ("", ("a",), ()), ("village", ("a",), ()),
    ("Town", ("a",), ()), ("town", ("a",), (("a",),)),
    # Too few and too many words.
    ("town", (), ()), ("town", ("a", "b"), ()), ("road", ("a",), ()), ("road", ("a", "b", "c"), ()), ("road", (), ()),
    # What is no word, as a key and as a field.
    *[("town", (word,), ()) for word in NO_WORDS], *[("road", ("a", word), ()) for word in NO_WORDS],
    # Records that may not stand in this row.
    shop("a"), ITEM, ("town", ("a",), (town("b"),)), ("town", ("a",), (ITEM,)),
    ("town", ("a",), (("road", ("a", "b"), ()),)), ("road", ("a", "b"), (shop("a"),)), town("a", shop("b", shop("c"))),
    town("a", shop("b", ("item", ("c",), (ITEM,)))), town("a", shop("b", town("c"))),
    # The same key twice in a row, by one kind.
    town("a", shop("b"), shop("b")), town("a", shop("b"), shop("c"), ("shop", ("b", "x", "y"), (ITEM,))),
    town("a", shop("b", ITEM, ITEM)),
    # Wrong deep within.
    town("a", shop("b", ("item", ("C",), ()))), town("a", shop("b"), ("shop", ("c", "bo"), ())), town("a", ["shop"]),
    town("a", shop("b", ("item", ("c",), [])),),
)


class IsModel(unittest.TestCase):
    def test_models(self):
        for model in MODELS:
            with self.subTest(model=model):
                self.assertIs(is_model(PROGRAM, model), True)

    def test_no_records(self):
        for value in NO_RECORDS:
            for model in ((value,), (town("q"), value), (value, ("road", ("q", "q"), ()))):
                with self.subTest(model=model):
                    self.assertIs(is_model(PROGRAM, model), False)

    def test_no_rows(self):
        for value in (*ODD_VALUES, "", "town", "abc", town("a"), [town("a")], {"town": town("a")}, *nested(30)):
            with self.subTest(value=value):
                self.assertIs(is_model(PROGRAM, value), False)

    def test_the_same_key_twice(self):
        self.assertIs(is_model(PROGRAM, (town("a"), town("a"))), False)
        self.assertIs(is_model(PROGRAM, (town("a"), town("b"), ("road", ("a", "b"), ()), town("a", shop("a")))), False)
        self.assertIs(is_model(PROGRAM, (("road", ("a", "b"), ()), ("road", ("a", "c"), ()))), False)

    def test_values_that_are_nested_deep(self):
        for value in nested(28):
            self.assertIs(is_model(PROGRAM, (value,)), False)
            self.assertIs(is_model(PROGRAM, (("town", (value,), ()),)), False)
            self.assertIs(is_model(PROGRAM, ((value, ("a",), ()),)), False)
            self.assertIs(is_model(PROGRAM, (("town", ("a",), (value,)),)), False)

    def test_another_program_has_other_models(self):
        other = Program("kind shop\nkind town in shop\npass")
        self.assertIs(is_model(other, (("shop", ("a",), (("town", ("a",), ()),)),)), True)
        self.assertIs(is_model(other, (town("a"),)), False)

    def test_kinds_in_the_same_kind(self):
        program = Program("kind a\nkind b in a\nkind c in a\npass")
        mixed = (("b", ("x",), ()), ("c", ("x",), ()), ("b", ("y",), ()))
        self.assertIs(is_model(program, (("a", ("x",), mixed),)), True)
        self.assertIs(is_model(program, (("a", ("x",), mixed + (("c", ("x",), ()),)),)), False)

    def test_arguments_by_name(self):
        self.assertIs(is_model(program=PROGRAM, value=()), True)
        self.assertIs(is_model(value=[], program=PROGRAM), False)

    def test_nothing_is_changed(self):
        for value in [*MODELS, *[(value,) for value in NO_RECORDS], *ODD_VALUES]:
            before = copy.deepcopy(value)
            is_model(PROGRAM, value)
            self.assertEqual(repr(value), repr(before))

    def test_functions_are_defined_in_their_file(self):
        for function in (is_model, written, text_of):
            self.assertEqual(function.__module__, "handkept.models")


class BadModels(unittest.TestCase):
    def test_the_very_value_is_kept(self):
        for value in [*[(value,) for value in NO_RECORDS], *ODD_VALUES, *nested(30), "", "abc", [town("a")]]:
            before = copy.deepcopy(value)
            for function in (written, text_of):
                with self.subTest(value=value), self.assertRaises(BadModel) as caught:
                    function(PROGRAM, value)
                self.assertIs(caught.exception.value, value)
                self.assertEqual(repr(value), repr(before))

    def test_a_model_of_another_program(self):
        model = (("village", ("a",), ()),)
        self.assertEqual(written(Program("kind village\npass"), model), ())
        with self.assertRaises(BadModel) as caught:
            written(PROGRAM, model)
        self.assertIs(caught.exception.value, model)


if __name__ == "__main__":
    unittest.main()
