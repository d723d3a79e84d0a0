import random
import unittest

from rankseals.fillcheck import shows_filled
from rankseals.filling import filled
from tests.samples import (
    NET, ODD_THINGS, every_cover, every_filling, fit_pairs, nest, net_house, odd_case, own_hands, put,
    seats_by_words, small_changes,
)


def all_that_show(house, paper, hands):
    """All right answers, as written, by trying every filling with every cover."""
    many, pairs = len(seats_by_words(house, paper)), fit_pairs(house, paper, hands)
    covers = every_cover(many, len(hands), pairs)
    return {repr((filling, cover)) for filling in every_filling(many, pairs) for cover in covers
            if len(filling) == len(cover[0]) + len(cover[1])}


class ShowsFilled(unittest.TestCase):
    """[10]: whether something is a filling and a cover of as many numbers."""

    # Three seats: 0 by hands 0 and 1, 1 by hand 0 alone, 2 by hands 1 and 2.
    house = net_house(3, [(0, 0), (1, 0), (0, 1), (1, 2), (2, 2)])
    hands = own_hands([0, 1, 2])
    right = ([(0, 1), (1, 0), (2, 2)], ([0, 1, 2], []))
    # The first two seats by hand 0 alone, the third by nobody; hand 1 fills nothing.
    poor = net_house(3, [(0, 0), (0, 1), (2, 2)])
    few = own_hands([0, 1])

    def yes(self, thing, house=house, hands=hands):
        self.assertIs(shows_filled(house, NET, hands, thing), True, thing)

    def no(self, thing, house=house, hands=hands):
        self.assertIs(shows_filled(house, NET, hands, thing), False, thing)

    def test_what_is_right(self):
        self.yes(self.right)
        self.yes(([(0, 1), (1, 0), (2, 2)], ([], [0, 1, 2])))
        self.yes(([(0, 1), (1, 0), (2, 2)], ([2], [0, 1])))
        self.yes(([(0, 0)], ([], [0])), self.poor, self.few)
        self.yes(([(1, 0)], ([], [0])), self.poor, self.few)
        self.yes(([], ([], [])), self.house, [])
        self.yes(([], ([], [])), net_house(0, []), self.hands)

    def test_what_filled_tells(self):
        for house, hands in ((self.house, self.hands), (self.poor, self.few), (self.house, []),
                             (net_house(0, []), self.hands)):
            self.yes(filled(house, NET, hands), house, hands)

    def test_a_pair_left_out_or_twice_or_out_of_order(self):
        filling, cover = self.right
        for at in range(3):
            self.no((filling[:at] + filling[at + 1:], cover))
            self.no((filling[:at] + filling[at + 1:], (cover[0][1:], cover[1])))
            self.no((filling[:at + 1] + filling[at:], cover))
        self.no((filling[:2] + [filling[1]], cover))
        self.no(([filling[1], filling[0], filling[2]], cover))
        self.no((filling[::-1], cover))
        self.no(([(0, 0), (0, 0)], ([0], [0])), self.poor, self.few)

    def test_a_hand_that_may_not_fill(self):
        self.no(([(0, 2), (1, 0), (2, 1)], self.right[1]))
        self.no(([(0, 1), (1, 2), (2, 0)], self.right[1]))
        self.no(([(0, 1)], ([], [0])), self.poor, self.few)
        self.no(([(2, 0)], ([], [0])), self.poor, self.few)

    def test_a_seat_or_a_hand_twice(self):
        self.no(([(0, 0), (1, 0), (2, 2)], self.right[1]))
        self.no(([(0, 1), (1, 0), (2, 1)], self.right[1]))
        self.no(([(0, 0), (0, 1), (2, 2)], self.right[1]))
        self.no(([(0, 0), (1, 0)], ([0, 1], [])), self.poor, self.few)
        self.no(([(0, 0), (1, 0)], ([1], [0])), self.poor, self.few)

    def test_numbers_that_there_are_not(self):
        for at in range(3):
            for wrong in (-1, -2, -3, 3, 10 ** 20):
                self.no(put(self.right, (0, at, 0), wrong))
                self.no(put(self.right, (0, at, 1), wrong))
                self.no(put(self.right, (1, 0, at), wrong))
        self.no(([(0, 0)], ([3], [])), self.poor, self.few)
        self.no(([(0, 0)], ([], [2])), self.poor, self.few)
        self.no(([(0, -2)], ([], [0])), self.poor, self.few)
        self.no(([(-3, 0)], ([], [0])), self.poor, self.few)
        self.no(([(0, 1), (1, 0), (2, 2)], ([-1, 1, 2], [])))

    def test_a_cover_that_does_not_cover(self):
        filling = self.right[0]
        for cover in (([0, 2], [1]), ([0, 1], [0]), ([], [0, 1]), ([1, 2], [0]), ([0], [0, 2])):
            self.no((filling, cover))
        for cover in (([0], []), ([1], []), ([2], []), ([], [1])):
            self.no(([(0, 0)], cover), self.poor, self.few)

    def test_a_cover_of_more_or_fewer_numbers(self):
        filling = self.right[0]
        for cover in (([0, 1, 2], [0]), ([0, 1, 2], [0, 1, 2]), ([0, 1], []), ([], [])):
            self.no((filling, cover))
        for cover in (([0, 1], []), ([], [0, 1]), ([2], [0]), ([], [])):
            self.no(([(0, 0)], cover), self.poor, self.few)
        self.no(([], ([], [0])), self.poor, self.few)
        self.no(([], ([], [])), self.poor, self.few)
        self.no(([], ([0], [])), self.house, [])

    def test_a_cover_out_of_order_or_with_a_number_twice(self):
        self.no((self.right[0], ([0, 2, 1], [])))
        self.no((self.right[0], ([2, 1, 0], [])))
        self.no((self.right[0], ([], [1, 0, 2])))
        self.no((self.right[0], ([], [0, 0, 1, 2])))
        house = net_house(2, [(0, 0), (1, 0), (1, 1)])
        self.yes(([(0, 0), (1, 1)], ([0, 1], [])), house, self.few)
        self.no(([(0, 0), (1, 1)], ([], [1, 1])), house, self.few)
        house = net_house(2, [(0, 0), (1, 0)])
        self.yes(([(0, 0)], ([0], [])), house, self.few)
        self.no(([(0, 0)], ([0, 0], [])), house, self.few)

    def test_lists_and_tuples_exchanged(self):
        filling, cover = self.right
        self.no([filling, cover])
        self.no((tuple(filling), cover))
        self.no(([list(pair) for pair in filling], cover))
        self.no(([list(filling[0])] + filling[1:], cover))
        self.no((filling, list(cover)))
        self.no((filling, (tuple(cover[0]), cover[1])))
        self.no((filling, (cover[0], tuple(cover[1]))))
        self.no(((), ([], [])), self.house, [])
        self.no(([], ((), [])), self.house, [])
        self.no(([], ([], ())), self.house, [])
        self.no(([], [[], []]), self.house, [])
        self.no([[], ([], [])], self.house, [])

    def test_true_and_false_are_no_numbers(self):
        for path in ((0, 0, 1), (0, 1, 0), (1, 0, 1)):
            self.no(put(self.right, path, True))
        for path in ((0, 0, 0), (0, 1, 1), (1, 0, 0)):
            self.no(put(self.right, path, False))
        self.no(([(0, 1), (1, 0), (2, 2)], ([], [False, 1, 2])))
        self.no(([(0, 1), (1, 0), (2, 2)], ([], [0, True, 2])))

    def test_tuples_of_other_lengths(self):
        filling, cover = self.right
        for thing in ((), (filling,), (filling, cover, []), (cover, filling), (filling, cover, cover),
                      (filling, ([0, 1, 2],)), (filling, ([0, 1, 2], [], [])), (filling, ()), (filling, [0, 1, 2]),
                      ([(0, 1, 1), (1, 0), (2, 2)], cover), ([(0,), (1, 0), (2, 2)], cover), ([0, 1, 2], cover)):
            self.no(thing)

    def test_things_of_any_form(self):
        for odd in ODD_THINGS:
            self.no(odd)
            self.no((odd, self.right[1]))
            self.no((self.right[0], odd))
            self.no((odd, odd))
            self.assertIs(shows_filled(self.house, NET, [], (odd, ([], []))), odd == [])
            self.assertIs(shows_filled(self.house, NET, [], ([], (odd, []))), odd == [])
            self.assertIs(shows_filled(self.house, NET, [], ([], ([], odd))), odd == [])
        for depth in range(1, 18):
            for core in (0, None, "p", []):
                deep = nest(depth, core)
                self.no(deep)
                self.no((self.right[0], deep))
                self.no((deep, self.right[1]))
                self.no(put(self.right, (0, 1), deep))
                self.no(put(self.right, (0, 1, 1), deep))
                self.no(put(self.right, (1, 0, 2), deep))
        self.no(([(0, 1)] * 3000, self.right[1]))
        self.no((self.right[0], ([0] * 3000, [])))

    def test_each_small_change(self):
        # Where a change makes another right answer, as by another cover, that is one too.
        for house, hands in ((self.house, self.hands), (self.poor, self.few), (self.house, []),
                             (net_house(0, []), self.few), (net_house(2, [(0, 0), (1, 0), (1, 1)]), self.few)):
            right = all_that_show(house, NET, hands)
            for thing in small_changes(filled(house, NET, hands)):
                self.assertIs(shows_filled(house, NET, hands, thing), repr(thing) in right, thing)

    def test_every_filling_with_every_cover(self):
        chance = random.Random(9)
        shown = 0
        for _ in range(150):
            house, paper, hands = odd_case(chance, 3, 3)
            many, pairs = len(seats_by_words(house, paper)), fit_pairs(house, paper, hands)
            right = all_that_show(house, paper, hands)
            self.assertIn(repr(filled(house, paper, hands)), right)
            every = [(seat, hand) for seat in range(many) for hand in range(len(hands))]
            for filling in every_filling(many, every):
                for cover in every_cover(many, len(hands), []):
                    so = repr((filling, cover)) in right
                    self.assertIs(shows_filled(house, paper, hands, (filling, cover)), so)
                    shown += so
        self.assertGreater(shown, 100)

    def test_six_seats_and_ten_hands(self):
        edges = [(who, seat) for who in range(10) for seat in (who // 2, who // 3)]
        house, hands = net_house(6, sorted(set(edges))), own_hands(range(10))
        told = filled(house, NET, hands)
        self.yes(told, house, hands)
        for thing in small_changes(told[0]):
            if isinstance(thing, list) and len(thing) == len(told[0]):
                continue
            self.no((thing, told[1]), house, hands)

    def test_nothing_is_changed(self):
        for thing in (self.right, ([(1, 0), (0, 1)], ([2, 1, 0], [])), ([[0], None], [])):
            shown = repr((thing, self.hands))
            shows_filled(self.house, NET, self.hands, thing)
            self.assertEqual(repr((thing, self.hands)), shown)


if __name__ == "__main__":
    unittest.main()
