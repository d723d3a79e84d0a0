import unittest

from rankseals.houses import empty_house, is_house
from rankseals.ranks import holders_of, rank_of
from tests.samples import PARTS

RANKS = (
    (0, "anna", 4, "p", 10, 20),
    (1, "bert", 6, "q", 10, 20),
    (2, "cleo", 3, "s", 0, 99),
    (3, "bert", 2, "p", 15, 30),
    (4, "bert", 9, "q", 18, 18),
    (5, "dora", 9, "z", 0, 99),
    (6, "anna", 7, "r", 12, 14),
    (7, "adam", 1, "p", 20, 20),
)
HOUSE = (PARTS, RANKS, (), ())


def plain_rank(person, part, day):
    """rank_of by another way: up the tree part by part."""
    outer, best = dict(PARTS), 0
    while part in outer:
        for _, who, rank, where, first, last in RANKS:
            if (who, where) == (person, part) and day in range(first, last + 1):
                best = max(best, rank)
        part = outer[part]
    return best


class RankOf(unittest.TestCase):
    """[5]: the highest rank on a day in the part or one over it."""

    def test_the_house_is_one(self):
        self.assertTrue(is_house(HOUSE))

    def test_in_the_part_itself(self):
        self.assertEqual(rank_of(HOUSE, "anna", "p", 11), 4)
        self.assertEqual(rank_of(HOUSE, "bert", "q", 11), 6)
        self.assertEqual(rank_of(HOUSE, "dora", "z", 50), 9)

    def test_in_one_over_it(self):
        self.assertEqual(rank_of(HOUSE, "anna", "q", 11), 4)
        self.assertEqual(rank_of(HOUSE, "anna", "s", 11), 4)
        self.assertEqual(rank_of(HOUSE, "bert", "s", 11), 6)

    def test_not_in_one_within_it(self):
        self.assertEqual(rank_of(HOUSE, "bert", "p", 11), 0)
        self.assertEqual(rank_of(HOUSE, "cleo", "q", 11), 0)
        self.assertEqual(rank_of(HOUSE, "cleo", "p", 11), 0)

    def test_not_in_one_beside_it(self):
        self.assertEqual(rank_of(HOUSE, "bert", "r", 11), 0)
        self.assertEqual(rank_of(HOUSE, "dora", "p", 11), 0)
        self.assertEqual(rank_of(HOUSE, "anna", "z", 11), 0)

    def test_the_first_and_the_last_day(self):
        told = [rank_of(HOUSE, "anna", "p", day) for day in (9, 10, 11, 19, 20, 21)]
        self.assertEqual(told, [0, 4, 4, 4, 4, 0])
        self.assertEqual([rank_of(HOUSE, "adam", "p", day) for day in (19, 20, 21)], [0, 1, 0])

    def test_several_ranks_on_days_that_overlap(self):
        days = (9, 10, 14, 15, 17, 18, 19, 20, 21, 30, 31)
        self.assertEqual([rank_of(HOUSE, "bert", "q", day) for day in days], [0, 6, 6, 6, 6, 9, 6, 6, 2, 2, 0])
        self.assertEqual([rank_of(HOUSE, "anna", "r", day) for day in (11, 12, 14, 15)], [4, 7, 7, 4])

    def test_what_is_not_there(self):
        self.assertEqual(rank_of(HOUSE, "zeno", "p", 11), 0)
        for part in ("x", "anna", ""):
            self.assertEqual(rank_of(HOUSE, "anna", part, 11), 0)
        self.assertEqual(rank_of(empty_house(), "anna", "p", 11), 0)

    def test_each_person_part_and_day(self):
        for person in ("adam", "anna", "bert", "cleo", "dora", "zeno"):
            for part in ("p", "q", "r", "s", "z", "x"):
                for day in range(0, 33):
                    told = rank_of(HOUSE, person, part, day)
                    self.assertEqual(told, plain_rank(person, part, day), (person, part, day))


class HoldersOf(unittest.TestCase):
    """[5]: the rising list of all whose rank_of is rank or higher."""

    def test_holders(self):
        self.assertEqual(holders_of(HOUSE, 1, "p", 20), ["adam", "anna", "bert"])
        self.assertEqual(holders_of(HOUSE, 2, "p", 20), ["anna", "bert"])
        self.assertEqual(holders_of(HOUSE, 3, "p", 20), ["anna"])
        self.assertEqual(holders_of(HOUSE, 4, "p", 20), ["anna"])
        self.assertEqual(holders_of(HOUSE, 5, "p", 20), [])
        self.assertEqual(holders_of(HOUSE, 9, "z", 0), ["dora"])

    def test_each_once_and_rising(self):
        self.assertEqual(holders_of(HOUSE, 1, "s", 18), ["anna", "bert", "cleo"])
        self.assertEqual(holders_of(HOUSE, 9, "s", 18), ["bert"])

    def test_each_rank_part_and_day(self):
        for rank in range(1, 10):
            for part in ("p", "q", "r", "s", "z", "x"):
                for day in (0, 9, 10, 12, 15, 18, 20, 21, 31):
                    people = [who for who in ("adam", "anna", "bert", "cleo", "dora", "zeno")
                              if plain_rank(who, part, day) >= rank]
                    self.assertEqual(holders_of(HOUSE, rank, part, day), people)

    def test_what_is_no_part(self):
        for part in ("x", "anna", ""):
            self.assertEqual(holders_of(HOUSE, 1, part, 11), [])
        self.assertEqual(holders_of(empty_house(), 1, "p", 11), [])

    def test_a_told_list_is_the_askers_own(self):
        for part, told in (("p", ["anna", "bert"]), ("x", [])):
            first, second = holders_of(HOUSE, 2, part, 20), holders_of(HOUSE, 2, part, 20)
            self.assertIsNot(first, second)
            first.append("zeno")
            self.assertEqual(second, told)
            self.assertEqual(holders_of(HOUSE, 2, part, 20), told)


if __name__ == "__main__":
    unittest.main()
