import itertools
import random
import unittest

from rankseals.houses import empty_house, is_house
from rankseals.leaves import row_of
from rankseals.rowcheck import is_row
from tests.samples import ODD_THINGS, PARTS, chain_house, every_row, house_of, letters, nest, put, small_changes

PAPER = ("q", 100, "xena", "yves")
CHAIN = house_of((4, "a", "b"), (2, "b", "c"), (7, "c", "d"))


class IsRow(unittest.TestCase):
    """[7]: whether something is a row, the shortest or not."""

    def yes(self, house, holder, signer, thing, paper=PAPER, day=7):
        self.assertIs(is_row(house, paper, holder, signer, day, thing), True, thing)

    def no(self, house, holder, signer, thing, paper=PAPER, day=7):
        self.assertIs(is_row(house, paper, holder, signer, day, thing), False, thing)

    def test_the_shortest_and_longer_ones(self):
        house = house_of((0, "a", "b"), (1, "b", "c"), (2, "c", "d"), (3, "b", "d"), (4, "a", "d"), (5, "a", "d"))
        for row in ([4], [5], [0, 3], [0, 1, 2]):
            self.yes(house, "a", "d", row)
        for row in ([], [0], [3], [0, 1], [1, 2], [0, 2], [4, 5], [0, 3, 2], [3, 0], [2, 1, 0]):
            self.no(house, "a", "d", row)

    def test_people_who_come_twice(self):
        house = house_of((0, "a", "b"), (1, "b", "a"), (2, "a", "b"), (3, "b", "c"), (4, "c", "b"), (5, "b", "c"))
        for row in ([0, 3], [2, 5], [0, 1, 2, 3], [2, 1, 0, 5], [0, 3, 4, 5], [0, 5, 4, 3], [0, 1, 2, 3, 4, 5]):
            self.yes(house, "a", "c", row)
        for row in ([0, 1], [0, 1, 3], [0, 2, 3], [0, 3, 4], [0, 3, 5]):
            self.no(house, "a", "c", row)

    def test_a_leave_twice(self):
        house = house_of((0, "a", "b"), (1, "b", "a"))
        self.yes(house, "a", "b", [0])
        self.no(house, "a", "b", [0, 0])
        self.no(house, "a", "b", [0, 1, 0])
        self.no(house, "a", "b", [0, 1, 0, 1, 0])
        house = house_of((0, "a", "b"), (1, "b", "a"), (2, "b", "c"))
        self.yes(house, "a", "c", [0, 2])
        self.no(house, "a", "c", [0, 1, 0, 2])

    def test_leaves_that_do_not_let(self):
        for wrong in (("s", 5, 9, 100), ("r", 5, 9, 100), ("z", 5, 9, 100), ("p", 8, 9, 100), ("p", 5, 6, 100),
                      ("p", 5, 9, 99)):
            for at in range(3):
                leaves = [(k, "abcd"[k], "abcd"[k + 1]) for k in range(3)]
                self.yes(house_of(*leaves), "a", "d", [0, 1, 2])
                leaves[at] += wrong
                self.no(house_of(*leaves), "a", "d", [0, 1, 2])

    def test_the_edges_of_letting(self):
        for part, so in (("q", True), ("s", True), ("p", True), ("r", True), ("z", False), ("o", False)):
            self.assertIs(is_row(CHAIN, (part, 100, "xena", "yves"), "a", "d", 7, [4, 2, 7]), so, part)
        for day, so in ((4, False), (5, True), (9, True), (10, False)):
            self.assertIs(is_row(CHAIN, PAPER, "a", "d", day, [4, 2, 7]), so, day)
        for many, so in ((0, True), (99, True), (100, True), (101, False)):
            self.assertIs(is_row(CHAIN, ("q", many, "xena", "yves"), "a", "d", 7, [4, 2, 7]), so, many)

    def test_a_broken_chain(self):
        self.yes(CHAIN, "a", "d", [4, 2, 7])
        for at in range(3):
            self.no(CHAIN, "a", "d", [4, 2, 7][:at] + [4, 2, 7][at + 1:])
            house = house_of(*[(n, giver, "e" if k == at else taker) for k, (n, giver, taker) in
                               enumerate(((4, "a", "b"), (2, "b", "c"), (7, "c", "d")))])
            self.no(house, "a", "d", [4, 2, 7])
            house = house_of(*[(n, "e" if k == at else giver, taker) for k, (n, giver, taker) in
                               enumerate(((4, "a", "b"), (2, "b", "c"), (7, "c", "d")))])
            self.no(house, "a", "d", [4, 2, 7])
        for row in itertools.permutations([4, 2, 7]):
            self.assertIs(is_row(CHAIN, PAPER, "a", "d", 7, list(row)), row == (4, 2, 7))

    def test_another_holder_or_signer(self):
        self.yes(CHAIN, "a", "b", [4])
        self.yes(CHAIN, "b", "d", [2, 7])
        for holder, signer in (("a", "c"), ("b", "d"), ("d", "a"), ("zeno", "d"), ("a", "zeno"), ("a", "a"),
                               ("d", "d"), ("zeno", "zeno")):
            self.no(CHAIN, holder, signer, [4, 2, 7])

    def test_sides(self):
        for place in ("a", "b", "c", "d"):
            for sides in ((place, "yves"), ("xena", place), (place, place)):
                self.no(CHAIN, "a", "d", [4, 2, 7], ("q", 100) + sides)
        self.yes(CHAIN, "a", "d", [4, 2, 7], ("q", 100, "e", "e"))
        for sides in (("a", "yves"), ("xena", "a"), ("a", "a")):
            self.no(CHAIN, "a", "a", [], ("q", 100) + sides)
            self.no(empty_house(), "a", "a", [], ("q", 100) + sides)

    def test_a_side_that_comes_twice(self):
        house = house_of((0, "a", "b"), (1, "b", "x"), (2, "x", "b"), (3, "b", "c"))
        self.yes(house, "a", "c", [0, 1, 2, 3])
        self.no(house, "a", "c", [0, 1, 2, 3], ("q", 100, "x", "yves"))
        self.yes(house, "a", "c", [0, 3], ("q", 100, "x", "yves"))

    def test_the_empty_list(self):
        for house in (CHAIN, empty_house()):
            for part in ("q", "o"):
                self.yes(house, "a", "a", [], (part, 100, "xena", "yves"), 99)
                self.yes(house, "zeno", "zeno", [], (part, 100, "xena", "yves"))
                self.no(house, "a", "b", [], (part, 100, "xena", "yves"))

    def test_holder_and_signer_one_have_just_the_empty_list(self):
        house = house_of((0, "a", "b"), (1, "b", "a"))
        self.no(house, "a", "a", [0, 1])
        self.no(house, "a", "a", [0])
        self.no(house, "a", "a", [[]])
        self.no(house, "a", "a", ())

    def test_things_of_other_forms(self):
        house = house_of((0, "a", "b"), (1, "b", "c"))
        self.yes(house, "a", "b", [0])
        self.yes(house, "a", "c", [0, 1])
        for thing in ((0,), [False], [[0]], [(0,)], 0, False, "0", ["0"], [None], [0, None], [0, ""], [0, [1]]):
            self.no(house, "a", "b", thing)
        for thing in ((0, 1), [0, True], [False, 1], [False, True], [[0, 1]], [[0], [1]], ["0", "1"], [0, 1, None]):
            self.no(house, "a", "c", thing)
        for thing in ODD_THINGS:
            self.assertIs(is_row(house, PAPER, "b", "a", 7, thing), False)
            self.assertIs(is_row(house, PAPER, "zeno", "zeno", 7, thing), thing == [])
            self.no(house, "a", "c", [0, thing])
            self.no(house, "a", "c", [thing, 1])
            self.no(house, "a", "c", [0, 1, thing])
            self.no(house, "xena", "c", thing)

    def test_numbers_of_leaves_that_there_are_not(self):
        for wrong in (-1, 3, 99, 10 ** 30, -10 ** 30):
            self.no(CHAIN, "a", "b", [wrong])
            for at in range(3):
                self.no(CHAIN, "a", "d", put([4, 2, 7], (at,), wrong))
        # Places in the house are no numbers of leaves.
        self.no(CHAIN, "a", "d", [1, 0, 2])

    def test_deep_and_long_things(self):
        for depth in range(2, 21):
            self.no(CHAIN, "a", "b", nest(depth, 4))
            self.no(CHAIN, "a", "b", [nest(depth - 1, 4)])
            self.no(CHAIN, "a", "d", [4, 2, nest(depth - 1, 7)])
            self.no(CHAIN, "a", "a", nest(depth - 1, []))
        self.no(CHAIN, "a", "b", [4] * 5000)
        self.no(CHAIN, "a", "b", list(range(5000)))

    def test_a_house_as_great_as_may_be(self):
        paper = ("p", 100, "xena", "yves")
        row = list(range(15, -1, -1))
        self.yes(chain_house(16), letters(0), letters(16), row, paper)
        for thing in small_changes(row):
            self.no(chain_house(16), letters(0), letters(16), thing, paper)

    def test_nothing_is_changed(self):
        for thing in ([4, 2, 7], [7, 2, 4], [4, [2], 7], [[4], None]):
            shown = repr(thing)
            is_row(CHAIN, PAPER, "a", "d", 7, thing)
            self.assertEqual(repr(thing), shown)

    def test_beside_a_count_of_all_rows(self):
        chance = random.Random(11)
        for _ in range(120):
            leaves = []
            for number in sorted(chance.sample(range(9), chance.randint(0, 5))):
                giver, taker = chance.sample("abcx", 2)
                leaves.append((number, giver, taker, chance.choice("ppqs"), chance.randint(0, 2),
                               chance.randint(2, 3), chance.choice([99, 100, 101])))
            house = (PARTS, (), tuple(leaves), ())
            self.assertTrue(is_house(house))
            paper = ("q", 100, "x", chance.choice("xyc"))
            day = chance.randint(0, 3)
            numbers = [leave[0] for leave in leaves]
            lists = [list(row) for many in range(5) for row in itertools.permutations(numbers, many)]
            lists += [row + [number] for row in lists for number in row[:1]]
            for holder, signer in itertools.product("abcxo", repeat=2):
                rows = every_row(house, paper, holder, signer, day)
                for thing in lists:
                    self.assertIs(is_row(house, paper, holder, signer, day, thing), thing in rows)
                shortest = row_of(house, paper, holder, signer, day)
                self.assertIs(is_row(house, paper, holder, signer, day, shortest), shortest is not None)


if __name__ == "__main__":
    unittest.main()
