import unittest
from unittest import mock

from handkept.errors import TooMany
from handkept.stays import shows_stays, stays

from tests.crowds import crowded

WHOLE = ("first", (), "")
TURN = (("turn", "a", "x"),)


class TooManyMembers(unittest.TestCase):
    def refused(self, program, sheet):
        with self.assertRaises(TooMany) as caught:
            stays(program, program, sheet, "z", WHOLE, "kept")
        self.assertEqual(caught.exception.number, 6000)

    def test_a_table_of_just_so_many(self):
        # 3000 guesses, two members of each.
        program = crowded(55, 137)
        told = stays(program, program, (), "z", WHOLE, "kept")
        self.assertEqual((told[0], len(told[1])), ("always", 6000))
        self.assertIs(shows_stays(program, program, (), "z", WHOLE, "kept", told), True)

    def test_a_table_of_more(self):
        program = crowded(55, 136)
        self.refused(program, ())
        self.assertIs(shows_stays(program, program, (), "z", WHOLE, "kept", ("always", ())), False)
        # Such a table is shown, whoever made it.
        with mock.patch("handkept.reaching.MOST_MEMBERS", 7000):
            told = stays(program, program, (), "z", WHOLE, "kept")
        self.assertEqual(len(told[1]), 6002)
        self.assertIs(shows_stays(program, program, (), "z", WHOLE, "kept", told), True)

    def test_a_wrong_one_in_a_table_of_more(self):
        program = crowded(55, 136)
        told = stays(program, program, TURN, "z", WHOLE, "kept")
        self.assertEqual((told[0], told[4]), ("wrong", "lost"))

    def test_a_wrong_one_behind_just_so_many(self):
        # 6000 members come by walks that open no record; the wrong one opens one.
        program = crowded(77, 85)
        told = stays(program, program, TURN, "z", WHOLE, "kept")
        self.assertEqual((told[0], told[4], len(told[1])), ("wrong", "lost", 1))
        self.refused(program, ())

    def test_a_wrong_one_behind_more(self):
        program = crowded(77, 84)
        self.refused(program, TURN)
        told = ("wrong", (("a", ("k", "u", "v"), ()),), (("a", ("k", "w", "v"), ()),), ("z", (("a", "k"),)), "lost")
        self.assertIs(shows_stays(program, program, TURN, "z", WHOLE, "kept", told), True)


if __name__ == "__main__":
    unittest.main()
