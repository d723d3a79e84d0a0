import unittest

from rankseals.houses import empty_house, is_house
from rankseals.rules import seats_of
from tests.samples import PARTS

RULES = (
    ("p", 0, ((1, ""),)),
    ("p", 100, ((5, ""), (2, "r"), (5, ""))),
    ("p", 200, ()),
    ("p", 300, ((9, "z"), (1, "p"))),
    ("q", 50, ((3, "p"),)),
    ("q", 500, ((4, ""), (4, "s"))),
    ("z", 10, ()),
)
HOUSE = (PARTS, (), (), RULES)


class SeatsOf(unittest.TestCase):
    """[6]: the seats of the rule of the first part over that has rules."""

    def test_the_house_is_one(self):
        self.assertTrue(is_house(HOUSE))

    def test_just_at_one_below_and_one_above(self):
        self.assertEqual(seats_of(HOUSE, "p", 0), ((1, "p"),))
        self.assertEqual(seats_of(HOUSE, "p", 1), ((1, "p"),))
        self.assertEqual(seats_of(HOUSE, "p", 99), ((1, "p"),))
        self.assertEqual(seats_of(HOUSE, "p", 100), ((5, "p"), (2, "r"), (5, "p")))
        self.assertEqual(seats_of(HOUSE, "p", 101), ((5, "p"), (2, "r"), (5, "p")))
        self.assertEqual(seats_of(HOUSE, "p", 299), ())
        self.assertEqual(seats_of(HOUSE, "p", 300), ((9, "z"), (1, "p")))
        self.assertEqual(seats_of(HOUSE, "p", 10 ** 9), ((9, "z"), (1, "p")))

    def test_a_rule_without_seats(self):
        self.assertEqual(seats_of(HOUSE, "p", 200), ())
        self.assertEqual(seats_of(HOUSE, "z", 10), ())

    def test_seats_keep_their_order(self):
        self.assertEqual(seats_of(HOUSE, "q", 500), ((4, "q"), (4, "s")))

    def test_an_empty_part_is_the_papers_own(self):
        self.assertEqual(seats_of(HOUSE, "r", 0), ((1, "r"),))
        self.assertEqual(seats_of(HOUSE, "r", 150), ((5, "r"), (2, "r"), (5, "r")))
        self.assertEqual(seats_of(HOUSE, "s", 600), ((4, "s"), (4, "s")))
        self.assertEqual(seats_of(HOUSE, "q", 600), ((4, "q"), (4, "s")))

    def test_a_part_that_is_named_stays(self):
        self.assertEqual(seats_of(HOUSE, "s", 50), ((3, "p"),))
        self.assertEqual(seats_of(HOUSE, "r", 300), ((9, "z"), (1, "p")))

    def test_rules_that_are_all_above_hide_those_over_them(self):
        self.assertEqual(seats_of(HOUSE, "q", 49), ())
        self.assertEqual(seats_of(HOUSE, "s", 49), ())
        self.assertEqual(seats_of(HOUSE, "q", 0), ())
        self.assertEqual(seats_of(HOUSE, "q", 50), ((3, "p"),))
        self.assertEqual(seats_of(HOUSE, "q", 499), ((3, "p"),))

    def test_no_rule(self):
        self.assertEqual(seats_of(HOUSE, "z", 9), ())
        self.assertEqual(seats_of((PARTS, (), (), ()), "s", 100), ())
        self.assertEqual(seats_of((PARTS, (), (), RULES[-1:]), "s", 100), ())
        within = (PARTS, (), (), (("s", 0, ((1, ""),)),))
        self.assertEqual(seats_of(within, "p", 100), ())
        self.assertEqual(seats_of(within, "q", 100), ())

    def test_what_is_no_part(self):
        for part in ("x", "anna", ""):
            self.assertEqual(seats_of(HOUSE, part, 100), ())
            self.assertEqual(seats_of(empty_house(), part, 100), ())

    def test_it_tells_tuples_and_the_same_again(self):
        told = seats_of(HOUSE, "r", 150)
        self.assertIsInstance(told, tuple)
        self.assertTrue(all([isinstance(seat, tuple) for seat in told]))
        self.assertEqual(seats_of(HOUSE, "r", 150), told)


if __name__ == "__main__":
    unittest.main()
