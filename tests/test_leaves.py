import random
import unittest

from rankseals.houses import empty_house, is_house
from rankseals.leaves import leaves_in_all, row_of, signers_of
from rankseals.widest import most_of
from tests.samples import PARTS, chain_house, every_row, house_of, letters

PAPER = ("q", 100, "xena", "yves")


def odd_house(chance):
    """A small house by a seeded chance, with rings, sides and unlike days and mosts."""
    leaves = []
    for number in sorted(chance.sample(range(30), chance.randint(0, 8))):
        giver, taker = chance.sample("abcdx", 2)
        first = chance.randint(0, 3)
        leaves.append((number, giver, taker, chance.choice("pqrsz"), first, first + chance.randint(0, 3),
                       chance.choice([0, 50, 99, 100, 101, 10 ** 9, 10 ** 10])))
    return (PARTS, (), tuple(leaves), ())


class RowOf(unittest.TestCase):
    """[7]: the shortest row, of equal ones the first."""

    def test_one_leave(self):
        house = house_of((3, "anna", "bert"))
        self.assertTrue(is_house(house))
        self.assertEqual(row_of(house, PAPER, "anna", "bert", 7), [3])
        self.assertIsNone(row_of(house, PAPER, "bert", "anna", 7))
        self.assertIsNone(row_of(house, PAPER, "anna", "cleo", 7))
        self.assertIsNone(row_of(empty_house(), PAPER, "anna", "bert", 7))

    def test_the_part(self):
        for part, row in (("q", [0]), ("p", [0]), ("s", None), ("r", None), ("z", None)):
            house = house_of((0, "anna", "bert", part, 5, 9, 100))
            self.assertEqual(row_of(house, PAPER, "anna", "bert", 7), row, part)

    def test_the_days(self):
        house = house_of((0, "anna", "bert"))
        told = [row_of(house, PAPER, "anna", "bert", day) for day in (4, 5, 6, 8, 9, 10)]
        self.assertEqual(told, [None, [0], [0], [0], [0], None])
        house = house_of((0, "anna", "bert", "p", 7, 7, 100))
        self.assertEqual([row_of(house, PAPER, "anna", "bert", day) for day in (6, 7, 8)], [None, [0], None])

    def test_the_most(self):
        house = house_of((0, "anna", "bert"))
        told = [row_of(house, ("q", many, "xena", "yves"), "anna", "bert", 7) for many in (0, 99, 100, 101)]
        self.assertEqual(told, [[0], [0], [0], None])

    def test_each_leave_of_a_row_must_let(self):
        for wrong in (("s", 5, 9, 100), ("p", 8, 9, 100), ("p", 5, 6, 100), ("p", 5, 9, 99)):
            for at in range(3):
                people = ["anna", "bert", "cleo", "dora"]
                leaves = [(k, people[k], people[k + 1]) for k in range(3)]
                self.assertEqual(row_of(house_of(*leaves), PAPER, "anna", "dora", 7), [0, 1, 2])
                leaves[at] += wrong
                self.assertIsNone(row_of(house_of(*leaves), PAPER, "anna", "dora", 7))

    def test_the_shortest(self):
        house = house_of((0, "a", "b"), (1, "b", "c"), (2, "c", "d"), (8, "b", "d"))
        self.assertEqual(row_of(house, PAPER, "a", "d", 7), [0, 8])
        house = house_of((0, "a", "b"), (1, "b", "c"), (2, "c", "d"), (9, "a", "d"))
        self.assertEqual(row_of(house, PAPER, "a", "d", 7), [9])

    def test_of_equal_ones_the_first(self):
        house = house_of((0, "b", "d"), (1, "c", "d"), (4, "a", "c"), (5, "a", "b"))
        self.assertEqual(row_of(house, PAPER, "a", "d", 7), [4, 1])
        house = house_of((2, "a", "b"), (3, "a", "b"), (4, "b", "c"), (1, "b", "c"))
        self.assertEqual(row_of(house, PAPER, "a", "c", 7), [2, 1])
        house = house_of((9, "a", "b"), (10, "a", "c"), (11, "b", "d"), (2, "c", "d"))
        self.assertEqual(row_of(house, PAPER, "a", "d", 7), [9, 11])

    def test_not_the_first_leave_that_a_greedy_choice_would_take(self):
        house = house_of((0, "a", "b"), (1, "b", "c"), (2, "c", "d"), (5, "a", "e"), (6, "e", "d"))
        self.assertEqual(row_of(house, PAPER, "a", "d", 7), [5, 6])
        house = house_of((0, "a", "b"), (5, "a", "c"), (6, "c", "d"))
        self.assertEqual(row_of(house, PAPER, "a", "d", 7), [5, 6])

    def test_rows_of_up_to_sixteen_leaves(self):
        house = chain_house(16)
        self.assertTrue(is_house(house))
        paper = ("p", 100, "xena", "yves")
        for many in range(17):
            row = row_of(house, paper, letters(0), letters(many), 7)
            self.assertEqual(row, list(range(15, 15 - many, -1)))
            self.assertEqual(row_of(house, paper, letters(16 - many), letters(16), 7), list(range(many - 1, -1, -1)))

    def test_holder_and_signer_one(self):
        house = house_of((0, "anna", "bert"), (1, "bert", "anna"))
        for person in ("anna", "bert", "zeno"):
            self.assertEqual(row_of(house, PAPER, person, person, 7), [])
            self.assertEqual(row_of(house, PAPER, person, person, 99), [])
            self.assertEqual(row_of(empty_house(), PAPER, person, person, 7), [])

    def test_a_side_has_none(self):
        leaves = ((0, "xena", "anna"), (1, "anna", "xena"), (2, "yves", "anna"), (3, "anna", "yves"))
        house = house_of(*leaves, (4, "xena", "yves"))
        for side in ("xena", "yves"):
            self.assertIsNone(row_of(house, PAPER, side, "anna", 7))
            self.assertIsNone(row_of(house, PAPER, "anna", side, 7))
            self.assertIsNone(row_of(house, PAPER, side, side, 7))
        self.assertIsNone(row_of(house, PAPER, "xena", "yves", 7))
        self.assertIsNone(row_of(empty_house(), PAPER, "xena", "xena", 7))

    def test_a_side_between(self):
        for side in ("xena", "yves"):
            house = house_of((0, "anna", side), (1, side, "bert"))
            self.assertIsNone(row_of(house, PAPER, "anna", "bert", 7))
            self.assertEqual(row_of(house, ("q", 100, "zeno", "zeno"), "anna", "bert", 7), [0, 1])
            house = house_of((0, "anna", side), (1, side, "bert"), (2, "anna", "cleo"), (3, "cleo", "dora"),
                             (4, "dora", "bert"))
            self.assertEqual(row_of(house, PAPER, "anna", "bert", 7), [2, 3, 4])

    def test_both_sides_one(self):
        paper = ("q", 100, "xena", "xena")
        house = house_of((0, "anna", "xena"), (1, "xena", "bert"), (2, "anna", "yves"), (3, "yves", "bert"))
        self.assertEqual(row_of(house, paper, "anna", "bert", 7), [2, 3])
        self.assertIsNone(row_of(house, paper, "xena", "bert", 7))

    def test_a_paper_whose_part_is_none_of_the_house(self):
        house = house_of((0, "anna", "bert"))
        paper = ("x", 100, "xena", "yves")
        self.assertIsNone(row_of(house, paper, "anna", "bert", 7))
        self.assertEqual(row_of(house, paper, "anna", "anna", 7), [])
        self.assertIsNone(row_of(house, paper, "xena", "xena", 7))
        self.assertEqual(signers_of(house, paper, "anna", 7), ["anna"])
        self.assertEqual(leaves_in_all(house, paper, "anna", "bert", 7), [])

    def test_people_and_parts_have_names_by_themselves(self):
        house = house_of((0, "q", "p"), (1, "p", "anna"))
        self.assertEqual(row_of(house, PAPER, "q", "anna", 7), [0, 1])
        self.assertEqual(row_of(house, PAPER, "q", "q", 7), [])
        self.assertEqual(signers_of(house, PAPER, "q", 7), ["anna", "p", "q"])

    def test_rings(self):
        house = house_of((0, "a", "b"), (1, "b", "c"), (2, "c", "a"), (3, "c", "d"))
        self.assertEqual(row_of(house, PAPER, "a", "c", 7), [0, 1])
        self.assertEqual(row_of(house, PAPER, "c", "b", 7), [2, 0])
        self.assertEqual(row_of(house, PAPER, "a", "d", 7), [0, 1, 3])
        self.assertEqual(row_of(house, PAPER, "a", "a", 7), [])
        self.assertIsNone(row_of(house, PAPER, "d", "a", 7))

    def test_a_told_list_is_the_askers_own(self):
        house = house_of((0, "a", "b"), (1, "b", "c"))
        for signer, told in (("c", [0, 1]), ("a", [])):
            first, second = row_of(house, PAPER, "a", signer, 7), row_of(house, PAPER, "a", signer, 7)
            self.assertIsNot(first, second)
            first.append(9)
            self.assertEqual(second, told)
            self.assertEqual(row_of(house, PAPER, "a", signer, 7), told)


class SignersOf(unittest.TestCase):
    """[7]: the rising list of all signers who have a row."""

    def test_signers(self):
        house = house_of((0, "m", "z"), (1, "z", "c"), (2, "c", "b"), (3, "k", "m"), (4, "m", "c"))
        self.assertEqual(signers_of(house, PAPER, "m", 7), ["b", "c", "m", "z"])
        self.assertEqual(signers_of(house, PAPER, "c", 7), ["b", "c"])
        self.assertEqual(signers_of(house, PAPER, "b", 7), ["b"])
        self.assertEqual(signers_of(house, PAPER, "k", 7), ["b", "c", "k", "m", "z"])

    def test_leaves_that_do_not_let(self):
        house = house_of((0, "a", "b"))
        self.assertEqual(signers_of(house, PAPER, "a", 10), ["a"])
        self.assertEqual(signers_of(house, ("q", 101, "xena", "yves"), "a", 7), ["a"])
        self.assertEqual(signers_of(house, ("z", 100, "xena", "yves"), "a", 7), ["a"])

    def test_strange_people(self):
        self.assertEqual(signers_of(empty_house(), PAPER, "zeno", 7), ["zeno"])
        self.assertEqual(signers_of(house_of((0, "a", "b")), PAPER, "zeno", 7), ["zeno"])

    def test_sides(self):
        house = house_of((0, "a", "xena"), (1, "xena", "b"), (2, "a", "c"), (3, "c", "yves"))
        self.assertEqual(signers_of(house, PAPER, "a", 7), ["a", "c"])
        self.assertEqual(signers_of(house, PAPER, "xena", 7), [])
        self.assertEqual(signers_of(house, PAPER, "yves", 7), [])

    def test_rings(self):
        house = house_of((0, "a", "b"), (1, "b", "c"), (2, "c", "a"), (3, "c", "d"))
        for person in "abc":
            self.assertEqual(signers_of(house, PAPER, person, 7), ["a", "b", "c", "d"])
        self.assertEqual(signers_of(house, PAPER, "d", 7), ["d"])

    def test_a_long_chain(self):
        told = signers_of(chain_house(16), ("p", 100, "xena", "yves"), letters(0), 7)
        self.assertEqual(told, [letters(at) for at in range(17)])

    def test_a_told_list_is_the_askers_own(self):
        house = house_of((0, "a", "b"))
        for holder, told in (("a", ["a", "b"]), ("xena", [])):
            first, second = signers_of(house, PAPER, holder, 7), signers_of(house, PAPER, holder, 7)
            self.assertIsNot(first, second)
            first.append("zeno")
            self.assertEqual(second, told)
            self.assertEqual(signers_of(house, PAPER, holder, 7), told)


class LeavesInAll(unittest.TestCase):
    """[8]: the leaves without each of which there would be no row."""

    def test_one_row_alone(self):
        house = house_of((5, "a", "b"), (3, "b", "c"), (9, "c", "d"), (1, "d", "e"))
        self.assertEqual(leaves_in_all(house, PAPER, "a", "d", 7), [3, 5, 9])
        told = leaves_in_all(chain_house(16), ("p", 100, "xena", "yves"), letters(0), letters(16), 7)
        self.assertEqual(told, list(range(16)))

    def test_leaves_beside_which_there_is_another(self):
        house = house_of((0, "a", "b"), (1, "a", "b"))
        self.assertEqual(leaves_in_all(house, PAPER, "a", "b", 7), [])
        house = house_of((0, "a", "b"), (1, "a", "b"), (2, "b", "c"))
        self.assertEqual(leaves_in_all(house, PAPER, "a", "c", 7), [2])

    def test_a_longer_row_beside_a_shorter_one(self):
        house = house_of((0, "a", "b"), (1, "b", "c"), (2, "c", "e"), (3, "b", "e"), (4, "e", "f"))
        self.assertEqual(leaves_in_all(house, PAPER, "a", "f", 7), [0, 4])

    def test_another_that_does_not_let_counts_for_nothing(self):
        for wrong in (("s", 5, 9, 100), ("p", 8, 9, 100), ("p", 5, 6, 100), ("p", 5, 9, 99)):
            house = house_of((0, "a", "b"), (1, "a", "b") + wrong)
            self.assertEqual(leaves_in_all(house, PAPER, "a", "b", 7), [0])

    def test_another_by_a_side_counts_for_nothing(self):
        house = house_of((0, "a", "b"), (1, "a", "xena"), (2, "xena", "b"))
        self.assertEqual(leaves_in_all(house, PAPER, "a", "b", 7), [0])
        self.assertEqual(leaves_in_all(house, ("q", 100, "zeno", "yves"), "a", "b", 7), [])

    def test_no_row_anyhow(self):
        house = house_of((0, "a", "b"), (1, "xena", "b"))
        self.assertEqual(leaves_in_all(house, PAPER, "b", "a", 7), [])
        self.assertEqual(leaves_in_all(house, PAPER, "a", "c", 7), [])
        self.assertEqual(leaves_in_all(house, PAPER, "a", "b", 10), [])
        self.assertEqual(leaves_in_all(house, PAPER, "xena", "b", 7), [])
        self.assertEqual(leaves_in_all(house, PAPER, "xena", "xena", 7), [])

    def test_holder_and_signer_one(self):
        house = house_of((0, "a", "b"), (1, "b", "a"))
        self.assertEqual(leaves_in_all(house, PAPER, "a", "a", 7), [])
        self.assertEqual(leaves_in_all(house, PAPER, "zeno", "zeno", 7), [])

    def test_a_told_list_is_the_askers_own(self):
        house = house_of((0, "a", "b"))
        for signer, told in (("b", [0]), ("a", []), ("c", [])):
            first, second = [leaves_in_all(house, PAPER, "a", signer, 7) for _ in range(2)]
            self.assertIsNot(first, second)
            first.append(9)
            self.assertEqual(second, told)
            self.assertEqual(leaves_in_all(house, PAPER, "a", signer, 7), told)


class MostOf(unittest.TestCase):
    """[7]: the greatest sum for which there is a row."""

    sides = ("xena", "yves")

    def test_one_leave(self):
        for most in (0, 1, 77, 10 ** 9 - 1, 10 ** 9):
            house = house_of((0, "a", "b", "p", 5, 9, most))
            self.assertEqual(most_of(house, "q", self.sides, "a", "b", 7), most)

    def test_a_most_above_the_bound(self):
        for most in (10 ** 9 + 1, 10 ** 12):
            house = house_of((0, "a", "b", "p", 5, 9, most))
            self.assertEqual(most_of(house, "q", self.sides, "a", "b", 7), 10 ** 9)

    def test_leaves_that_let_different_sums(self):
        house = house_of((0, "a", "b", "p", 5, 9, 50), (1, "b", "c", "p", 5, 9, 70))
        self.assertEqual(most_of(house, "q", self.sides, "a", "c", 7), 50)
        self.assertEqual(most_of(house, "q", self.sides, "b", "c", 7), 70)

    def test_the_widest_is_not_the_shortest(self):
        house = house_of((0, "a", "d", "p", 5, 9, 10), (1, "a", "b", "p", 5, 9, 60),
                         (2, "b", "c", "p", 5, 9, 40), (3, "c", "d", "p", 5, 9, 90))
        self.assertEqual(most_of(house, "q", self.sides, "a", "d", 7), 40)

    def test_leaves_that_do_not_let(self):
        house = house_of((0, "a", "b", "s", 5, 9, 90), (1, "a", "b", "p", 8, 9, 80), (2, "a", "b", "p", 5, 6, 70),
                         (3, "a", "b", "p", 5, 9, 60))
        self.assertEqual(most_of(house, "q", self.sides, "a", "b", 7), 60)
        self.assertEqual(most_of(house, "s", self.sides, "a", "b", 7), 90)

    def test_sides(self):
        house = house_of((0, "a", "xena", "p", 5, 9, 90), (1, "xena", "b", "p", 5, 9, 90), (2, "a", "b"))
        self.assertEqual(most_of(house, "q", self.sides, "a", "b", 7), 100)
        self.assertEqual(most_of(house_of((0, "a", "xena"), (1, "xena", "b")), "q", ("c", "d"), "a", "b", 7), 100)
        self.assertIsNone(most_of(house_of((0, "a", "xena"), (1, "xena", "b")), "q", self.sides, "a", "b", 7))
        self.assertIsNone(most_of(house_of((0, "a", "yves"), (1, "yves", "b")), "q", self.sides, "a", "b", 7))
        for side in self.sides:
            self.assertIsNone(most_of(house, "q", self.sides, side, side, 7))
            self.assertIsNone(most_of(house, "q", self.sides, side, "b", 7))
            self.assertIsNone(most_of(house, "q", self.sides, "a", side, 7))

    def test_every_sum(self):
        house = house_of((0, "a", "b"))
        self.assertEqual(most_of(house, "q", self.sides, "a", "a", 7), 10 ** 9)
        self.assertEqual(most_of(house, "x", self.sides, "a", "a", 7), 10 ** 9)
        self.assertEqual(most_of(empty_house(), "q", self.sides, "zeno", "zeno", 7), 10 ** 9)

    def test_none(self):
        house = house_of((0, "a", "b"))
        self.assertIsNone(most_of(house, "q", self.sides, "b", "a", 7))
        self.assertIsNone(most_of(house, "q", self.sides, "a", "c", 7))
        self.assertIsNone(most_of(house, "q", self.sides, "a", "b", 4))
        self.assertIsNone(most_of(house, "x", self.sides, "a", "b", 7))
        self.assertIsNone(most_of(house, "z", self.sides, "a", "b", 7))
        self.assertIsNone(most_of(empty_house(), "q", self.sides, "a", "b", 7))

    def test_it_is_a_sum_with_a_row_and_one_more_has_none(self):
        house = house_of((0, "a", "b", "p", 5, 9, 50), (1, "b", "c", "p", 5, 9, 70), (2, "a", "c", "q", 7, 7, 60))
        for holder in "abc":
            for signer in "abc":
                most = most_of(house, "q", self.sides, holder, signer, 7)
                if most is None:
                    self.assertIsNone(row_of(house, ("q", 0) + self.sides, holder, signer, 7))
                    continue
                self.assertIsNotNone(row_of(house, ("q", most) + self.sides, holder, signer, 7))
                if most < 10 ** 9:
                    self.assertIsNone(row_of(house, ("q", most + 1) + self.sides, holder, signer, 7))


class AgainstEveryRow(unittest.TestCase):
    """[7], [8]: many small houses, beside a count of all rows."""

    def each(self):
        chance = random.Random(7)
        for _ in range(250):
            house = odd_house(chance)
            self.assertTrue(is_house(house))
            paper = (chance.choice("pqrszo"), chance.choice([0, 50, 99, 100, 101]), "x", chance.choice("xyd"))
            for holder in "abcdxo":
                yield house, paper, holder, chance.randint(0, 6)

    def test_rows_and_leaves_in_all(self):
        for house, paper, holder, day in self.each():
            signers = []
            for signer in "abcdxo":
                rows = every_row(house, paper, holder, signer, day)
                best = min(rows, key=lambda row: (len(row), row), default=None)
                self.assertEqual(row_of(house, paper, holder, signer, day), best)
                numbers = [leave[0] for leave in house[2]]
                in_all = [n for n in numbers if rows and all([n in row for row in rows])]
                self.assertEqual(leaves_in_all(house, paper, holder, signer, day), in_all)
                signers += [signer] if rows else []
            self.assertEqual(signers_of(house, paper, holder, day), sorted(signers))

    def test_most_of(self):
        for house, paper, holder, day in self.each():
            for signer in "abcdxo":
                rows = every_row(house, (paper[0], 0) + paper[2:], holder, signer, day)
                most = {leave[0]: leave[6] for leave in house[2]}
                widths = [min([most[n] for n in row] + [10 ** 9]) for row in rows]
                told = most_of(house, paper[0], paper[2:], holder, signer, day)
                self.assertEqual(told, max(widths, default=None))


if __name__ == "__main__":
    unittest.main()
