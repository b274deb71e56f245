import unittest

from handkept import errors

ARGUMENTS = {
    "BadText": "line", "BadModel": "value", "BadSheet": "value", "BadWay": "value", "BadRule": "value",
    "BadPrograms": "value", "NoChange": "value", "NotMade": "value", "BadLabel": "value", "BadWish": "value",
    "TooMany": "number", "BadMarks": "value", "BadRules": "value", "BadOffers": "value", "BadField": "value",
    "BadEdits": "value", "Clash": "number", "BadOrder": "value", "BadNumber": "value", "BadLine": "value",
}
WITHOUT = ("NothingToUndo", "NothingToRedo")
VALUES = (0, 6000, -1, True, False, None, "", "a word", (), ("a", (1, None)), [], [[{"a": [()]}]], {}, {"a": {1: [2]}})


class Bases(unittest.TestCase):
    def test_kept_error_is_directly_below_value_error(self):
        self.assertEqual(errors.KeptError.__bases__, (ValueError,))

    def test_each_error_is_directly_below_kept_error(self):
        for name in [*ARGUMENTS, *WITHOUT]:
            with self.subTest(name):
                self.assertEqual(getattr(errors, name).__bases__, (errors.KeptError,))

    def test_each_error_is_defined_in_the_file_of_errors(self):
        for name in ["KeptError", *ARGUMENTS, *WITHOUT]:
            self.assertEqual(getattr(errors, name).__module__, "handkept.errors")

    def test_there_are_no_other_errors(self):
        found = {name for name, thing in vars(errors).items() if isinstance(thing, type)}
        self.assertEqual(found, {"KeptError", *ARGUMENTS, *WITHOUT})


class Arguments(unittest.TestCase):
    def test_the_very_argument_is_kept_by_position_and_by_name(self):
        for name, argument in ARGUMENTS.items():
            for value in VALUES:
                with self.subTest(name, value=value):
                    error = getattr(errors, name)
                    self.assertIs(getattr(error(value), argument), value)
                    self.assertIs(getattr(error(**{argument: value}), argument), value)

    def test_the_argument_stays_as_it_is(self):
        value = [{"a": [1]}]
        errors.BadModel(value)
        self.assertEqual(value, [{"a": [1]}])

    def test_the_argument_is_wanted(self):
        for name in ARGUMENTS:
            with self.assertRaises(TypeError):
                getattr(errors, name)()

    def test_raised_errors_are_caught_as_kept_errors_and_value_errors(self):
        for base in (errors.KeptError, ValueError):
            for name, argument in ARGUMENTS.items():
                with self.subTest(name), self.assertRaises(base) as caught:
                    raise getattr(errors, name)(("a", 1))
                self.assertEqual(getattr(caught.exception, argument), ("a", 1))

    def test_two_errors_have_no_argument(self):
        for name in WITHOUT:
            with self.assertRaises(errors.KeptError) as caught:
                raise getattr(errors, name)()
            self.assertEqual(caught.exception.args, ())

    def test_errors_can_be_shown(self):
        for name, argument in ARGUMENTS.items():
            for value in VALUES:
                error = getattr(errors, name)
                self.assertIsInstance(str(error(value)) + repr(error(**{argument: value})), str)


if __name__ == "__main__":
    unittest.main()
