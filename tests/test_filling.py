import copy
import random
import unittest

from rankseals.fillcheck import shows_filled
from rankseals.filling import filled, open_seats, stands
from rankseals.houses import empty_house, is_house
from tests.samples import (
    NET, PARTS, every_filling, fit_pairs, most_filled, net_house, odd_case, own_hands, seats_by_words,
)


class Case(unittest.TestCase):
    def check(self, house, paper, hands):
        """What is told is right in itself, and as great as can be."""
        self.assertTrue(is_house(house))
        pairs = fit_pairs(house, paper, hands)
        seats = list(range(len(seats_by_words(house, paper))))
        told = filled(house, paper, hands)
        self.assertIsInstance(told, tuple)
        filling, cover = told
        self.assertIsInstance(filling, list)
        self.assertIsInstance(cover, tuple)
        self.assertIsInstance(cover[0], list)
        self.assertIsInstance(cover[1], list)
        self.assertEqual(filling, sorted(filling))
        self.assertEqual([pair for pair in filling if pair not in pairs], [])
        self.assertEqual(len({seat for seat, _ in filling}), len(filling))
        self.assertEqual(len({hand for _, hand in filling}), len(filling))
        self.assertEqual(len(filling), most_filled(seats, pairs))
        self.assertEqual(cover, (sorted(set(cover[0])), sorted(set(cover[1]))))
        self.assertLessEqual(set(cover[0]), set(seats))
        self.assertLessEqual(set(cover[1]), set(range(len(hands))))
        self.assertEqual([(seat, hand) for seat, hand in pairs if seat not in cover[0] and hand not in cover[1]], [])
        self.assertEqual(len(cover[0]) + len(cover[1]), len(filling))
        self.assertIs(stands(house, paper, hands), len(filling) == len(seats))
        without = [seat for seat in seats
                   if most_filled([other for other in seats if other != seat], pairs) == len(filling)]
        self.assertEqual(open_seats(house, paper, hands), without)
        self.assertIs(shows_filled(house, paper, hands, told), True)
        return filling

    def net(self, many, people, edges):
        """How many seats of a net are filled, and which are open."""
        house, hands = net_house(many, edges), own_hands(people)
        return len(self.check(house, NET, hands)), open_seats(house, NET, hands)


class Filled(Case):
    """[10]: a greatest filling, its cover, and the seats that are open."""

    def test_one_seat(self):
        self.assertEqual(self.net(1, [0], [(0, 0)]), (1, []))
        self.assertEqual(self.net(1, [0], []), (0, [0]))
        self.assertEqual(self.net(1, [0, 1], [(1, 0)]), (1, []))
        house = net_house(1, [(0, 0)])
        self.assertEqual(filled(house, NET, own_hands([0])), ([(0, 0)], ([0], [])))
        self.assertEqual(filled(house, NET, own_hands([1])), ([], ([], [])))

    def test_where_a_greedy_choice_is_not_the_greatest(self):
        self.assertEqual(self.net(2, [0, 1], [(0, 0), (1, 0), (0, 1)]), (2, []))
        self.assertEqual(self.net(2, [1, 0], [(0, 0), (1, 0), (0, 1)]), (2, []))
        self.assertEqual(self.net(2, [0, 1], [(0, 0), (0, 1), (1, 1)]), (2, []))
        self.assertEqual(self.net(2, [1, 0], [(0, 0), (0, 1), (1, 1)]), (2, []))
        ladder = [(0, 0), (0, 1), (1, 1), (1, 2), (2, 2), (2, 3)]
        self.assertEqual(self.net(4, [0, 1, 2, 3], ladder + [(3, 0)]), (4, []))
        self.assertEqual(self.net(4, [0, 1, 2, 3], ladder + [(3, 3)]), (4, []))

    def test_a_long_change_of_places(self):
        ladder = [(at, at) for at in range(6)] + [(at, at + 1) for at in range(5)]
        for people in ([0, 1, 2, 3, 4, 5], [5, 4, 3, 2, 1, 0], [2, 5, 0, 3, 1, 4]):
            self.assertEqual(self.net(6, people, ladder), (6, []))
            self.assertEqual(self.net(6, people, ladder[:-1] + [(4, 0)]), (6, []))
            self.assertEqual(self.net(6, people, ladder[1:]), (5, [0]))

    def test_no_seats(self):
        for house in (net_house(0, []), empty_house()):
            for hands in ([], own_hands([0, 1])):
                self.assertEqual(filled(house, NET, hands), ([], ([], [])))
                self.assertIs(stands(house, NET, hands), True)
                self.assertEqual(open_seats(house, NET, hands), [])
        # A paper of a part that is none of the house has no seats, whatever the rules.
        house = net_house(2, [])
        self.assertIs(stands(house, ("o", 100, "xena", "yves"), []), True)
        self.assertIs(stands(house, NET, []), False)

    def test_no_hands(self):
        house = net_house(3, [(0, 0), (1, 1)])
        self.assertEqual(filled(house, NET, []), ([], ([], [])))
        self.assertIs(stands(house, NET, []), False)
        self.assertEqual(open_seats(house, NET, []), [0, 1, 2])

    def test_more_seats_than_hands(self):
        every = [(who, seat) for who in range(2) for seat in range(4)]
        self.assertEqual(self.net(4, [0, 1], every), (2, [0, 1, 2, 3]))
        self.assertEqual(self.net(4, [0, 1], [(0, 0), (1, 1), (1, 2), (1, 3)]), (2, [1, 2, 3]))

    def test_more_hands_than_seats(self):
        every = [(who, seat) for who in range(5) for seat in range(2)]
        self.assertEqual(self.net(2, range(5), every), (2, []))
        self.assertEqual(self.net(2, range(5), [(who, 0) for who in range(5)]), (1, [1]))

    def test_open_seats_where_each_single_one_can_be_filled(self):
        self.assertEqual(self.net(2, [0], [(0, 0), (0, 1)]), (1, [0, 1]))
        self.assertEqual(self.net(3, [0, 1], [(0, 0), (0, 1), (1, 1), (1, 2)]), (2, [0, 1, 2]))
        self.assertEqual(self.net(3, [0, 1], [(0, 0), (0, 1), (1, 2)]), (2, [0, 1]))
        self.assertEqual(self.net(4, [0, 1, 2], [(0, 0), (0, 1), (1, 2), (2, 2), (2, 3)]), (3, [0, 1]))

    def test_all_have_one_hand_that_may_fill(self):
        self.assertEqual(self.net(6, range(10), [(3, seat) for seat in range(6)]), (1, [0, 1, 2, 3, 4, 5]))

    def test_seats_that_are_alike(self):
        house = (PARTS, ((0, "anna", 5, "p", 0, 9), (1, "bert", 5, "p", 0, 9)), (),
                 (("p", 0, ((5, ""), (5, "q"), (5, ""))),))
        paper = ("q", 1, "xena", "yves")
        self.check(house, paper, [("anna", "anna", 3), ("bert", "bert", 3)])
        self.assertEqual(open_seats(house, paper, [("anna", "anna", 3), ("bert", "bert", 3)]), [0, 1, 2])
        self.assertEqual(len(filled(house, paper, [("anna", "anna", 3), ("bert", "bert", 3)])[0]), 2)

    def test_each_hand_counts_on_its_own_day(self):
        house = (PARTS, ((0, "anna", 5, "p", 0, 3), (1, "bert", 5, "p", 6, 9)), ((0, "bert", "cleo", "p", 6, 7, 50),),
                 (("p", 0, ((5, ""), (5, ""))),))
        paper = ("q", 50, "xena", "yves")
        for anna, bert, many in ((3, 6, 2), (3, 7, 2), (4, 7, 1), (3, 5, 1), (3, 8, 1), (4, 8, 0)):
            filling = self.check(house, paper, [("anna", "anna", anna), ("bert", "cleo", bert)])
            self.assertEqual(len(filling), many)
        self.check(house, ("q", 51, "xena", "yves"), [("anna", "anna", 3), ("bert", "cleo", 6)])
        self.assertIs(stands(house, ("q", 51, "xena", "yves"), [("anna", "anna", 3), ("bert", "cleo", 6)]), False)

    def test_sides_fill_nothing(self):
        house = net_house(2, [(0, 0), (1, 1)])
        paper = NET[:2] + ("paa", "pab")
        self.assertEqual(filled(house, paper, own_hands([0, 1])), ([], ([], [])))
        self.assertIs(stands(house, NET[:2] + ("paa", "yves"), own_hands([0, 1])), False)
        self.assertIs(stands(house, NET, own_hands([0, 1])), True)

    def test_the_seats_are_those_of_the_papers_sum(self):
        parts, ranks, leaves, rules = net_house(1, [(0, 0)])
        house = (parts, ranks, leaves, rules + (("aa", 100, ((1, "aa"), (1, "ab"))),))
        self.assertIs(stands(house, ("aa", 99, "xena", "yves"), own_hands([0])), True)
        self.assertIs(stands(house, ("aa", 100, "xena", "yves"), own_hands([0])), False)
        self.assertEqual(open_seats(house, ("aa", 100, "xena", "yves"), own_hands([0])), [1])

    def test_six_seats_and_ten_hands(self):
        chance = random.Random(5)
        every = [(who, seat) for who in range(10) for seat in range(6)]
        sizes = set()
        for _ in range(150):
            edges = sorted(chance.sample(every, chance.randint(4, 20)))
            sizes.add(self.net(6, chance.sample(range(10), 10), edges)[0])
        self.assertLessEqual({3, 4, 5, 6}, sizes)

    def test_by_chance_with_leaves(self):
        chance = random.Random(6)
        stood = 0
        for _ in range(400):
            house, paper, hands = odd_case(chance, 4, 4)
            filling = self.check(house, paper, hands)
            stood += 0 < len(filling) == len(seats_by_words(house, paper))
            fillings = every_filling(len(seats_by_words(house, paper)), fit_pairs(house, paper, hands))
            greatest = [some for some in fillings if len(some) == len(filling)]
            self.assertIn(filling, greatest)
            seats = range(len(seats_by_words(house, paper)))
            opened = [seat for seat in seats if any(seat not in dict(some) for some in greatest)]
            self.assertEqual(open_seats(house, paper, hands), opened)
        self.assertGreater(stood, 20)


class Told(Case):
    """[2]: what is told is the asker's own, and nothing that is handed in is changed."""

    def test_the_same_question_is_told_the_same(self):
        chance = random.Random(8)
        for _ in range(60):
            house, paper, hands = odd_case(chance, 4, 5)
            kept = copy.deepcopy((house, paper, hands))
            first = filled(house, paper, hands)
            kept_first = copy.deepcopy(first)
            second = filled(house, paper, hands)
            opened = open_seats(house, paper, hands)
            self.assertEqual(repr(first), repr(second))
            lists = [first[0], first[1][0], first[1][1], second[0], second[1][0], second[1][1], opened, hands]
            self.assertEqual(len({id(some) for some in lists}), len(lists))
            for some in lists[:3] + [opened]:
                some.append(99)
            self.assertEqual(second, kept_first)
            self.assertEqual(filled(house, paper, hands), kept_first)
            self.assertEqual(open_seats(house, paper, hands), opened[:-1])
            self.assertEqual((house, paper, hands), kept)

    def test_hands_that_change_later(self):
        house = net_house(2, [(0, 0), (1, 1)])
        hands = own_hands([0, 1])
        told = filled(house, NET, hands)
        self.assertIs(stands(house, NET, hands), True)
        hands.pop()
        self.assertEqual(told[0], [(0, 0), (1, 1)])
        self.assertIs(stands(house, NET, hands), False)


if __name__ == "__main__":
    unittest.main()
