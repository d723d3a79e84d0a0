import random
import unittest

from rankseals.fitting import may_fill
from rankseals.houses import empty_house, is_house
from tests.samples import PARTS, chain_house, fits, letters

PAPER = ("q", 100, "xena", "yves")
HOUSE = (
    PARTS,
    (
        (0, "anna", 5, "q", 3, 8),
        (1, "bert", 4, "p", 3, 8),
        (2, "cleo", 9, "s", 3, 8),
        (3, "dora", 9, "r", 3, 8),
        (4, "emil", 2, "q", 3, 8),
        (5, "emil", 6, "p", 5, 5),
        (6, "xena", 9, "p", 0, 99),
        (7, "yves", 9, "q", 0, 99),
    ),
    (
        (0, "anna", "fred", "p", 4, 6, 100),
        (1, "fred", "gina", "q", 5, 7, 100),
        (2, "anna", "xena", "p", 0, 99, 100),
        (3, "xena", "hugo", "p", 0, 99, 100),
        (4, "xena", "anna", "p", 0, 99, 100),
        (5, "bert", "anna", "p", 0, 99, 99),
    ),
    (),
)


class MayFill(unittest.TestCase):
    """[9]: a hand may fill a seat where it has a row and its holder the rank."""

    def told(self, seat, hand, paper=PAPER, house=HOUSE):
        answer = may_fill(house, paper, seat, hand)
        self.assertIsInstance(answer, bool)
        self.assertEqual(answer, fits(house, paper, seat, hand))
        return answer

    def test_the_house_is_one(self):
        self.assertTrue(is_house(HOUSE))

    def test_the_rank(self):
        for rank, so in ((1, True), (4, True), (5, True), (6, False), (9, False)):
            self.assertIs(self.told((rank, "q"), ("anna", "anna", 5)), so, rank)
            self.assertIs(self.told((rank, "q"), ("anna", "fred", 5)), so, rank)

    def test_the_part_of_the_seat(self):
        for part, so in (("q", True), ("s", True), ("p", False), ("r", False), ("z", False), ("o", False)):
            self.assertIs(self.told((5, part), ("anna", "anna", 5)), so, part)
        for part, so in (("p", True), ("q", True), ("r", True), ("s", True), ("z", False), ("o", False)):
            self.assertIs(self.told((4, part), ("bert", "bert", 5)), so, part)
        for part, so in (("s", True), ("q", False), ("p", False), ("r", False)):
            self.assertIs(self.told((1, part), ("cleo", "cleo", 5)), so, part)
        for part, so in (("r", True), ("q", False), ("p", False), ("s", False)):
            self.assertIs(self.told((1, part), ("dora", "dora", 5)), so, part)

    def test_the_part_of_the_paper_makes_no_matter_to_the_rank(self):
        for part in ("p", "q", "r", "s", "z", "o"):
            self.assertIs(self.told((5, "q"), ("anna", "anna", 5), (part, 100, "xena", "yves")), True, part)

    def test_the_part_of_the_paper_lets_the_leaves(self):
        for part, so in (("q", True), ("s", True), ("p", False), ("r", False), ("z", False), ("o", False)):
            self.assertIs(self.told((5, "q"), ("anna", "gina", 5), (part, 100, "xena", "yves")), so, part)

    def test_the_day_of_the_rank(self):
        for day, so in ((2, False), (3, True), (8, True), (9, False)):
            self.assertIs(self.told((5, "q"), ("anna", "anna", day)), so, day)

    def test_the_highest_of_several_ranks_on_the_day(self):
        for day, so in ((4, False), (5, True), (6, False)):
            self.assertIs(self.told((6, "q"), ("emil", "emil", day)), so, day)
            self.assertIs(self.told((2, "q"), ("emil", "emil", day)), True, day)

    def test_the_day_of_the_leaves(self):
        for day, so in ((3, False), (4, True), (6, True), (7, False)):
            self.assertIs(self.told((5, "q"), ("anna", "fred", day)), so, day)
        for day, so in ((4, False), (5, True), (6, True), (7, False)):
            self.assertIs(self.told((5, "q"), ("anna", "gina", day)), so, day)

    def test_the_sum(self):
        for many, so in ((98, True), (99, True), (100, False)):
            self.assertIs(self.told((4, "q"), ("bert", "anna", 5), ("q", many, "xena", "yves")), so, many)

    def test_no_row(self):
        self.assertIs(self.told((5, "q"), ("anna", "bert", 5)), False)
        self.assertIs(self.told((5, "q"), ("anna", "zeno", 5)), False)
        self.assertIs(self.told((1, "q"), ("fred", "fred", 5)), False)
        self.assertIs(self.told((1, "q"), ("fred", "anna", 5)), False)

    def test_the_signers_rank_makes_no_matter(self):
        self.assertIs(self.told((5, "q"), ("bert", "anna", 5), ("q", 99, "xena", "yves")), False)
        self.assertIs(self.told((5, "q"), ("anna", "gina", 5)), True)

    def test_sides(self):
        for side in ("xena", "yves"):
            self.assertIs(self.told((9, "q"), (side, side, 5)), False)
            self.assertIs(self.told((9, "q"), (side, side, 5), ("q", 100, "zeno", "zeno")), True)
        self.assertIs(self.told((9, "q"), ("xena", "anna", 5)), False)
        self.assertIs(self.told((9, "q"), ("xena", "anna", 5), ("q", 100, "zeno", "yves")), True)
        self.assertIs(self.told((5, "q"), ("anna", "xena", 5)), False)
        self.assertIs(self.told((5, "q"), ("anna", "hugo", 5)), False)
        self.assertIs(self.told((5, "q"), ("anna", "hugo", 5), ("q", 100, "zeno", "yves")), True)
        self.assertIs(self.told((5, "q"), ("anna", "anna", 5), ("q", 100, "anna", "anna")), False)

    def test_an_empty_house(self):
        self.assertIs(self.told((1, "q"), ("anna", "anna", 5), PAPER, empty_house()), False)

    def test_a_long_row(self):
        parts, ranks, leaves, rules = chain_house(16)
        house = (parts, ((0, letters(0), 9, "p", 7, 7),), leaves, rules)
        paper = ("p", 100, "xena", "yves")
        for at in range(17):
            self.assertIs(self.told((9, "p"), (letters(0), letters(at), 7), paper, house), True)
        self.assertIs(self.told((9, "p"), (letters(0), letters(16), 7), ("p", 100, letters(9), "yves"), house), False)
        self.assertIs(self.told((9, "p"), (letters(0), letters(16), 6), paper, house), False)

    def test_by_chance(self):
        chance = random.Random(3)
        people = ("anna", "bert", "cleo", "dora", "emil", "fred", "gina", "hugo", "xena", "yves", "zeno")
        for _ in range(3000):
            seat = (chance.randint(1, 9), chance.choice("pqrszo"))
            hand = (chance.choice(people), chance.choice(people), chance.randint(2, 9))
            sides = (chance.choice(people[5:]), chance.choice(people[5:]))
            self.told(seat, hand, (chance.choice("pqso"), chance.randint(98, 101)) + sides)


if __name__ == "__main__":
    unittest.main()
