import importlib
import inspect
import unittest

from handkept.desk import Desk
from handkept.keeper import Keeper
from handkept.programs import Program

from tests.questions import TOWN

# The functions and classes of each file, each with its arguments; those behind a star are passed by name.
FUNCTIONS = {
    "models": {"is_model": "program value", "written": "program model", "text_of": "program model"},
    "sheets": {"is_sheet": "program value", "is_change": "program sheet elder newer"},
    "edits": {"is_rule": "value", "remembered": "program model way rule",
              "fate": "elder newer sheet elder_model newer_model way rule"},
    "stays": {"stays": "elder newer sheet label rule wish", "shows_stays": "elder newer sheet label rule wish value"},
    "rowstays": {"row_stays": "programs sheet label rule wish", "shows_row_stays": "programs sheet label rule wish value"},
    "marks": {"with_marks": "program marks"},
    "cheapest": {"cheapest": "elder newer sheet rules offers wish",
                 "shows_cheapest": "elder newer sheet rules offers wish value"},
    "twins": {"twins": "program label", "shows_twins": "program label value"},
    "touched": {"touched": "program kind field", "shows_touched": "program kind field value"},
    "same": {"same": "elder newer", "shows_same": "elder newer value"},
    "applied": {"edited": "program model edits", "carried": "elder newer sheet elder_model newer_model edits"},
    "texts": {"show_model": "program model", "read_model": "program text"},
    "journals": {"read_journal": "text"},
}
CLASSES = {
    "programs": {"Program": {"__init__": "text", "__eq__": "other"}},
    "keeper": {"Keeper": {
        "__init__": "program model=", "come": "path place record", "go": "path", "turn": "path field word", "exchange": "newer",
        "edit": "way rule deed", "drop": "number", "write": "", "wrongs": "", "missing": "offers", "undo": "", "redo": "", "trial": "",
        "tried": "look *keep=", "copy": "", "__eq__": "other"}},
    "desk": {"Desk": {"__init__": "text", "say": "line"}},
}


def arguments_of(function):
    """The arguments, a default told by =, those that are passed by name alone with a star."""
    found = []
    for name, told in inspect.signature(function).parameters.items():
        star = "*" if told.kind == told.KEYWORD_ONLY else ""
        found.append(star + name + ("" if told.default is told.empty else "="))
    return " ".join(found)


class Names(unittest.TestCase):
    def test_functions(self):
        for file, functions in FUNCTIONS.items():
            module = importlib.import_module("handkept." + file)
            for name, arguments in functions.items():
                function = getattr(module, name)
                self.assertTrue(inspect.isfunction(function), name)
                self.assertEqual((function.__module__, function.__name__), ("handkept." + file, name))
                self.assertEqual(arguments_of(function), arguments, name)

    def test_classes(self):
        for file, classes in CLASSES.items():
            module = importlib.import_module("handkept." + file)
            for name, methods in classes.items():
                own = getattr(module, name)
                self.assertTrue(inspect.isclass(own))
                self.assertEqual((own.__module__, own.__name__), ("handkept." + file, name))
                for method, arguments in methods.items():
                    # Each is defined in the class itself.
                    self.assertEqual(arguments_of(vars(own)[method]), ("self " + arguments).strip(), method)

    def test_defaults(self):
        self.assertEqual(inspect.signature(Keeper.__init__).parameters["model"].default, ())
        self.assertIs(inspect.signature(Keeper.tried).parameters["keep"].default, False)


class Attributes(unittest.TestCase):
    def test_each_object_has_them_from_the_beginning(self):
        for own, names in ((Program(TOWN.text), "text kinds labels passes"),
                           (Keeper(TOWN), "program model text edits edited orders journal"),
                           (Desk(Keeper(TOWN).journal), "keeper")):
            for name in names.split():
                self.assertTrue(hasattr(own, name), name)
                self.assertFalse(callable(getattr(own, name)), name)

    def test_sorts_of_values(self):
        keeper = Keeper(TOWN)
        self.assertIsInstance(keeper.program, Program)
        self.assertIsInstance(keeper.journal, str)
        for value in (keeper.model, keeper.text, keeper.edits, keeper.edited, keeper.orders, keeper.wrongs()):
            self.assertIsInstance(value, tuple)
        self.assertIsInstance(keeper.copy(), Keeper)


if __name__ == "__main__":
    unittest.main()
