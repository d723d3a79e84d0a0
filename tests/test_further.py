import copy
import random
import unittest

from rankseals.further import more_for
from rankseals.furthercheck import shows_more
from rankseals.houses import empty_house, is_house
from tests.samples import (
    NET, PARTS, chain_house, every_new, fewest_news, fits, letters, net_house, odd_case, own_hands, says_so,
    seats_by_words,
)

PAPER = ("q", 100, "xena", "yves")


def one_rank(holders, seats, *leaves):
    """A house where these hold rank 5 in part p on days 5 to 9, with a rule of so many seats, each of rank 5."""
    ranks = tuple((number, person, 5, "p", 5, 9) for number, person in enumerate(holders))
    full = tuple((number,) + pair + ("p", 5, 9, 100) for number, pair in enumerate(leaves))
    return (PARTS, ranks, full, (("p", 0, ((5, ""),) * seats),))


class Case(unittest.TestCase):
    def told(self, house, hands=(), paper=PAPER, day=7):
        """What more_for tells, which must be right by the plain words, and shown by the checker."""
        self.assertTrue(is_house(house))
        told = more_for(house, paper, list(hands), day)
        self.assertTrue(says_so(house, paper, list(hands), day, told), told)
        self.assertIs(shows_more(house, paper, list(hands), day, told), True)
        return told

    def news(self, house, hands=(), paper=PAPER, day=7):
        told = self.told(house, hands, paper, day)
        self.assertEqual(told[0], "more", told)
        return told[1]

    def none(self, house, hands=(), paper=PAPER, day=7):
        told = self.told(house, hands, paper, day)
        self.assertEqual(told[0], "none", told)
        return told[1:]


class More(Case):
    """[11]: the fewest new hands with which all seats are filled."""

    def test_a_paper_that_stands_already(self):
        house = one_rank(["anna", "bert", "cleo"], 2)
        hands = [("anna", "anna", 5), ("bert", "bert", 6)]
        told = self.told(house, hands)
        self.assertEqual(told[:2], ("more", []))
        self.assertEqual([seat for seat, _ in told[2]], [0, 1])
        self.assertEqual(len(told[3][0]) + len(told[3][1]), 2)
        self.assertEqual(self.news(house, hands, PAPER, 99), [])

    def test_no_seats(self):
        for house in (one_rank(["anna"], 0), empty_house()):
            self.assertEqual(more_for(house, PAPER, [], 7), ("more", [], [], ([], [])))
            self.assertEqual(more_for(house, PAPER, [("anna", "bert", 3)], 7), ("more", [], [], ([], [])))
        self.assertEqual(more_for(one_rank([], 2), ("o", 1, "xena", "yves"), [], 7), ("more", [], [], ([], [])))

    def test_one_and_two(self):
        house = one_rank(["anna", "bert"], 2)
        self.assertEqual(self.told(house), ("more", [("anna", "anna"), ("bert", "bert")], [(0, 0), (1, 1)], ([], [])))
        told = self.told(house, [("anna", "anna", 5)])
        self.assertEqual(told[1], [("bert", "bert")])
        self.assertIn(told[2], ([(0, 0), (1, 1)], [(0, 1), (1, 0)]))
        self.assertEqual(told[3], ([], [0]))

    def test_six(self):
        house = one_rank([letters(at) for at in range(6)], 6)
        told = self.told(house)
        self.assertEqual(told[1], [(letters(at), letters(at)) for at in range(6)])
        self.assertEqual(told[3], ([], []))
        for many in range(7):
            hands = [(letters(at), letters(at), 5) for at in range(many)]
            self.assertEqual(len(self.news(house, hands)), 6 - many)

    def test_the_fewest_where_another_choice_would_need_more(self):
        # Hand 0 may fill both seats, hand 1 the first alone.
        house = net_house(2, [(0, 0), (0, 1), (1, 0), (2, 0), (2, 1)])
        self.assertEqual(self.news(house, own_hands([0, 1]), NET), [])
        self.assertEqual(self.news(house, own_hands([1, 0]), NET), [])
        self.assertEqual(len(self.news(house, own_hands([0]), NET)), 1)

    def test_a_hand_goes_to_another_seat_for_a_new_one(self):
        # The new one may fill just the seat that the hand would be put into first.
        for seat in (0, 1):
            house = net_house(2, [(0, 0), (0, 1), (1, seat)])
            told = self.told(house, own_hands([0]), NET)
            self.assertEqual(told[1:3], ([("pab", "pab")], sorted([(seat, 1), (1 - seat, 0)])))

    def test_new_ones_that_make_way_for_one_another(self):
        house = net_house(3, [(0, 0), (0, 1), (0, 2), (1, 0), (1, 1), (2, 0)])
        told = self.told(house, [], NET)
        self.assertEqual(told[2], [(0, 2), (1, 1), (2, 0)])
        house = net_house(3, [(2, 0), (2, 1), (2, 2), (1, 1), (1, 2), (0, 2)])
        self.assertEqual(self.told(house, [], NET)[2], [(0, 2), (1, 1), (2, 0)])

    def test_signers_that_make_way_for_one_another(self):
        # Both holders are taken as signers; anna may give to cleo or dora, bert to one of them alone.
        hands = [("emil", "anna", 5), ("fred", "bert", 5)]
        for other in ("cleo", "dora"):
            house = one_rank(["anna", "bert"], 2, ("anna", "cleo"), ("anna", "dora"), ("bert", other))
            left = "dora" if other == "cleo" else "cleo"
            self.assertEqual(self.news(house, hands), [("anna", left), ("bert", other)])

    def test_a_holder_whose_signer_changes_through_a_seat(self):
        # The first seat takes bert; the second can't but by him, so the first must take anna, by the one left signer.
        parts = (("p", ""), ("q", ""))
        house = (parts, ((0, "anna", 5, "p", 5, 9), (1, "bert", 5, "p", 5, 9), (2, "bert", 5, "q", 5, 9)),
                 ((0, "anna", "cleo", "p", 5, 9, 100), (1, "bert", "cleo", "p", 5, 9, 100),
                  (2, "bert", "dora", "p", 5, 9, 100)), (("p", 0, ((5, "p"), (5, "q"))),))
        hands = [("emil", "anna", 5), ("fred", "bert", 5)]
        self.assertEqual(self.news(house, hands, ("p", 100, "xena", "yves")), [("anna", "cleo"), ("bert", "dora")])

    def test_a_new_holder_who_is_anothers_signer(self):
        house = one_rank(["anna", "bert"], 2, ("anna", "bert"), ("bert", "cleo"))
        self.assertEqual(self.news(house, [("emil", "anna", 5)]), [("anna", "bert"), ("bert", "cleo")])
        house = one_rank(["anna", "bert"], 2, ("anna", "bert"), ("bert", "anna"))
        self.assertIn(self.news(house), ([("anna", "anna"), ("bert", "bert")], [("anna", "bert"), ("bert", "anna")]))

    def test_a_hands_signer_as_new_holder_and_a_hands_holder_as_new_signer(self):
        house = one_rank(["anna", "bert"], 2, ("anna", "bert"), ("bert", "anna"))
        self.assertEqual(self.news(house, [("anna", "bert", 6)]), [("bert", "anna")])
        self.assertEqual(self.news(house, [("bert", "anna", 6)]), [("anna", "bert")])

    def test_a_hands_holder_is_no_new_holder_and_its_signer_no_new_signer(self):
        # Neither hand fills anything, but each takes its holder and its signer away.
        house = one_rank(["anna", "bert"], 1)
        self.assertEqual(self.news(house, [("anna", "zeno", 6)]), [("bert", "bert")])
        self.assertEqual(self.news(house, [("zeno", "anna", 6)]), [("bert", "bert")])
        self.none(house, [("anna", "zeno", 6), ("bert", "xena", 6)])
        self.none(house, [("zeno", "anna", 6), ("xena", "bert", 6)])
        self.none(house, [("anna", "bert", 6)])
        house = one_rank(["anna", "bert"], 1, ("bert", "cleo"))
        self.assertEqual(self.news(house, [("anna", "bert", 6)]), [("bert", "cleo")])

    def test_hands_that_fill_nothing_are_numbered(self):
        house = one_rank(["anna", "bert"], 2)
        hands = [("zeno", "zeno", 6), ("anna", "anna", 6), ("emil", "fred", 6)]
        told = self.told(house, hands)
        self.assertEqual(told[1], [("bert", "bert")])
        self.assertEqual(sorted(hand for _, hand in told[2]), [1, 3])
        self.assertEqual(told[3], ([], [1]))

    def test_news_on_the_day_that_is_asked_about(self):
        house = one_rank(["anna"], 1, ("anna", "bert"))
        for day, many in ((5, 1), (9, 1)):
            self.assertEqual(len(self.news(house, [], PAPER, day)), many)
            self.assertEqual(self.news(house, [("zeno", "anna", 1)], PAPER, day), [("anna", "bert")])
        for day in (4, 10):
            self.none(house, [], PAPER, day)

    def test_a_leave_on_the_day_that_is_asked_about(self):
        house = (PARTS, ((0, "anna", 5, "p", 0, 99),), ((0, "anna", "bert", "p", 5, 9, 100),),
                 (("p", 0, ((5, ""),)),))
        for day, so in ((4, "none"), (5, "more"), (9, "more"), (10, "none")):
            self.assertEqual(self.told(house, [("zeno", "anna", 7)], PAPER, day)[0], so)

    def test_hands_on_their_own_days(self):
        house = (PARTS, ((0, "anna", 5, "p", 1, 2), (1, "bert", 5, "p", 5, 6)), (), (("p", 0, ((5, ""), (5, ""))),))
        self.assertEqual(self.news(house, [("anna", "anna", 2)], PAPER, 5), [("bert", "bert")])
        self.none(house, [("anna", "anna", 3)], PAPER, 5)
        self.none(house, [], PAPER, 5)
        self.none(house, [("anna", "anna", 2)], PAPER, 7)
        self.assertEqual(self.news(house, [("anna", "anna", 2), ("bert", "bert", 5)], PAPER, 7), [])

    def test_the_sum_and_the_part_let_the_leaves(self):
        house = one_rank(["anna"], 1, ("anna", "bert"))
        hands = [("zeno", "anna", 7)]
        self.assertEqual(self.news(house, hands, ("q", 100, "xena", "yves")), [("anna", "bert")])
        self.none(house, hands, ("q", 101, "xena", "yves"))

    def test_new_ones_are_unlike(self):
        # All three holders may sign by dora alone or by themselves.
        house = one_rank(["anna", "bert", "cleo"], 3, ("anna", "dora"), ("bert", "dora"), ("cleo", "dora"))
        news = self.news(house)
        self.assertEqual([holder for holder, _ in news], ["anna", "bert", "cleo"])
        self.assertEqual(len({signer for _, signer in news}), 3)
        self.assertEqual(len(self.news(house, [("zeno", "anna", 7)])), 3)
        self.none(house, [("zeno", "anna", 7), ("yves", "bert", 7)])

    def test_a_seat_by_rank_and_part(self):
        house = (PARTS, ((0, "anna", 5, "q", 5, 9), (1, "bert", 9, "r", 5, 9), (2, "cleo", 4, "p", 5, 9)), (),
                 (("p", 0, ((5, ""), (4, "r"))),))
        self.assertEqual(self.told(house)[1:3], ([("anna", "anna"), ("bert", "bert")], [(0, 0), (1, 1)]))
        told = self.told(house, [("bert", "zeno", 7)])
        self.assertEqual(told[1:3], ([("anna", "anna"), ("cleo", "cleo")], [(0, 1), (1, 2)]))
        self.assertEqual(sum(map(len, self.none(house, [("bert", "cleo", 7)]))), 1)


class NoneDo(Case):
    """[11]: four lists that show that no new ones do."""

    def test_nobody_holds_the_rank(self):
        house = (PARTS, ((0, "anna", 4, "p", 5, 9), (1, "bert", 5, "r", 5, 9), (2, "cleo", 5, "p", 8, 9),
                         (3, "dora", 5, "p", 5, 6)), (), (("p", 0, ((5, ""),)),))
        self.assertEqual(self.none(house), ([], [], [], []))
        self.assertEqual(self.none(one_rank([], 6)), ([], [], [], []))

    def test_one_seat_of_two(self):
        self.assertEqual(sum(map(len, self.none(one_rank(["anna"], 2)))), 1)
        house = net_house(2, [(0, 0)])
        self.assertEqual(sum(map(len, self.none(house, [], NET))), 1)
        self.assertEqual(sum(map(len, self.none(house, own_hands([0]), NET))), 1)
        self.assertEqual(self.none(house, own_hands([1]), NET)[1], [])

    def test_holders_who_are_sides(self):
        house = one_rank(["xena", "yves"], 1, ("xena", "anna"), ("yves", "bert"), ("anna", "bert"))
        self.assertEqual(self.none(house), ([], [], [], []))
        self.assertEqual(len(self.news(house, [], ("q", 100, "xena", "xena"))), 1)

    def test_rows_by_sides(self):
        house = one_rank(["anna"], 1, ("anna", "xena"), ("xena", "bert"), ("anna", "yves"))
        self.assertEqual(self.none(house, [("zeno", "anna", 7)]), ([], [], [], []))
        self.assertEqual(len(self.news(house, [("zeno", "anna", 7)], ("q", 100, "o", "yves"))), 1)

    def test_no_row_to_anybody_who_is_free(self):
        house = one_rank(["anna"], 1, ("anna", "bert"), ("bert", "cleo"))
        hands = [("emil", "anna", 7), ("fred", "bert", 7), ("gina", "cleo", 7)]
        self.assertEqual(self.none(house, hands), ([], [], [], []))
        for at in range(3):
            self.assertEqual(len(self.news(house, hands[:at] + hands[at + 1:])), 1)

    def test_two_seats_need_one_signer(self):
        hands = [("emil", "anna", 7), ("fred", "bert", 7)]
        house = one_rank(["anna", "bert"], 2, ("anna", "cleo"), ("bert", "cleo"))
        self.assertEqual(self.none(house, hands), ([], [], [], ["cleo"]))
        self.assertEqual(self.news(house, hands[:1]), [("anna", "cleo"), ("bert", "bert")])

    def test_two_seats_need_one_holder(self):
        house = one_rank(["anna"], 2, ("anna", "bert"), ("anna", "cleo"))
        self.assertEqual(self.none(house), ([], [], ["anna"], []))

    def test_stand_ins_in_a_ring(self):
        ring = [("anna", "bert"), ("bert", "cleo"), ("cleo", "anna")]
        house = one_rank(["anna", "bert", "cleo"], 3, *ring)
        self.assertEqual(len(self.news(house)), 3)
        self.assertEqual(len(self.news(house, [("anna", "bert", 7)])), 2)
        self.assertEqual(len(self.news(house, [("anna", "bert", 7), ("bert", "anna", 7)])), 1)
        # A hand of a stranger takes one of the ring's signers away.
        self.assertEqual(sum(map(len, self.none(house, [("zeno", "bert", 7)]))), 2)
        self.assertEqual(len(self.news(house, [("zeno", "zeno", 7)])), 3)

    def test_the_lists_together(self):
        # Seat 0 by hand 0; seats 1 and 2 by anna alone; seats 3, 4 and 5 by three whose one signer is dora.
        parts = tuple((letters(at), "") for at in range(6))
        ranks = [("emil", 0), ("anna", 1), ("anna", 2)] + [(who, at) for who in ("bert", "cleo", "fred")
                                                           for at in (3, 4, 5)]
        house = (parts, tuple((n, who, 1, letters(at), 0, 9) for n, (who, at) in enumerate(ranks)),
                 tuple((n, who, "dora", "aa", 0, 9, 100) for n, who in enumerate(("bert", "cleo", "fred"))),
                 (("aa", 0, tuple((1, letters(at)) for at in range(6))),))
        hands = [("emil", "emil", 3), ("gina", "bert", 3), ("hugo", "cleo", 3), ("ida", "fred", 3)]
        seats, hand_numbers, holders, signers = self.none(house, hands, NET)
        self.assertEqual(holders, ["anna"])
        self.assertEqual(signers, ["dora"])
        self.assertEqual(len(seats) + len(hand_numbers), 1)

    def test_it_is_the_hands_that_take_them_away(self):
        house = one_rank(["anna", "bert"], 2)
        self.assertEqual(len(self.news(house)), 2)
        self.assertEqual(sum(map(len, self.none(house, [("anna", "bert", 7)]))), 0)
        self.assertEqual(sum(map(len, self.none(house, [("anna", "zeno", 7)]))), 1)


class ByChance(Case):
    """[1], [11]: many small houses beside all that could be tried, and some as great as may be."""

    def test_the_fewest(self):
        chance = random.Random(12)
        seen = {}
        for _ in range(1200):
            house, paper, hands = odd_case(chance, 4, 4)
            day = chance.choice((1, 2, 2, 3))
            told = self.told(house, hands, paper, day)
            fewest = fewest_news(house, paper, hands, day)
            self.assertEqual(len(told[1]) if told[0] == "more" else None, fewest)
            key = (told[0], fewest)
            seen[key] = seen.get(key, 0) + 1
        for many in (0, 1, 2, 3, None):
            self.assertGreater(seen["none" if many is None else "more", many], 9)

    def test_no_side_and_nobody_twice(self):
        chance = random.Random(13)
        for _ in range(300):
            house, paper, hands = odd_case(chance, 4, 4)
            told = self.told(house, hands, paper, 2)
            if told[0] == "none":
                continue
            together = hands + [pair + (2,) for pair in told[1]]
            for place in (0, 1):
                people = [hand[place] for hand in together]
                self.assertEqual(len(set(people)), len(people))
            for seat, number in told[2]:
                self.assertFalse(set(together[number][:2]) & set(paper[2:]))
                self.assertTrue(fits(house, paper, seats_by_words(house, paper)[seat], together[number]))

    def great_house(self, chance):
        """Sixteen leaves, twenty ranks and six seats, and the people that they name."""
        people = [letters(at) for at in range(14)]
        ranks = tuple((n, chance.choice(people), chance.choice((3, 6)), chance.choice("pppqs"), 0, 9)
                      for n in range(20))
        leaves = tuple((n,) + tuple(chance.sample(people + ["xena"], 2)) + (chance.choice("pppq"), 0, 9, 100)
                       for n in range(16))
        seats = tuple((chance.choice((1, 3, 6)), chance.choice(("", "p", "q", "s"))) for _ in range(6))
        return (PARTS, ranks, leaves, (("p", 0, seats),)), people

    def test_as_great_as_may_be(self):
        chance = random.Random(14)
        words = {}
        for _ in range(100):
            house, people = self.great_house(chance)
            # Half of the hands fill nothing, so that new ones are needed.
            strangers = ["z" + letters(at) for at in range(10)]
            hands = [(who, who, 5) for who in strangers[:chance.randint(4, 10)]]
            more = chance.sample(people, 10 - len(hands))
            hands += list(zip(more, chance.sample(people, len(more)), [5] * len(more)))
            self.assertEqual(len(hands), 10)
            told = self.told(house, hands, PAPER, 5)
            words[told[0]] = words.get(told[0], 0) + 1
        self.assertGreater(words["more"], 9)
        self.assertGreater(words["none"], 9)

    def test_a_long_chain(self):
        # Every one along the chain is taken as signer but the last, so each row to it is long.
        parts, ranks, leaves, rules = chain_house(16)
        paper = ("p", 100, "xena", "yves")
        ranks = tuple((n, letters(n), 9, "p", 0, 9) for n in range(16))
        house = (parts, ranks, leaves, (("p", 0, ((9, "p"),) * 6),))
        hands = [("z" + letters(n), letters(n), 7) for n in range(7, 17)]
        self.assertEqual(len(self.news(house, hands, paper, 7)), 6)
        hands = [("z" + letters(n), letters(n), 7) for n in range(10)]
        self.assertEqual(len(self.news(house, hands, paper, 7)), 6)
        ranks = tuple((n, letters(n), 9, "p", 0, 9) for n in range(8))
        house = (parts, ranks, leaves, (("p", 0, ((9, "p"),) * 6),))
        hands = [("z" + letters(n), letters(n), 7) for n in range(7, 17)]
        self.assertEqual(len(self.news(house, hands, paper, 7)), 6)
        paper = ("p", 100, letters(12), "yves")
        hands = [("z" + letters(n), letters(n), 7) for n in range(2, 12)]
        self.assertEqual(sum(map(len, self.none(house, hands, paper, 7))), 2)

    def test_every_new_one_is_shut_out(self):
        chance = random.Random(15)
        shut = 0
        for _ in range(300):
            house, paper, hands = odd_case(chance, 4, 4)
            told = more_for(house, paper, hands, 2)
            if told[0] == "more":
                continue
            seats = seats_by_words(house, paper)
            for holder, signer in every_new(house, paper, hands, 2):
                for at, seat in enumerate(seats):
                    if at not in told[1] and fits(house, paper, seat, (holder, signer, 2)):
                        self.assertTrue(holder in told[3] or signer in told[4])
                        shut += 1
        self.assertGreater(shut, 50)


class Told(Case):
    """[2]: what is told is the asker's own, and nothing that is handed in is changed."""

    def lists(self, told):
        if told[0] == "none":
            return list(told[1:])
        return [told[1], told[2], told[3][0], told[3][1]]

    def test_told_lists(self):
        chance = random.Random(16)
        for _ in range(120):
            house, paper, hands = odd_case(chance, 4, 4)
            kept = copy.deepcopy((house, paper, hands))
            first = more_for(house, paper, hands, 2)
            kept_first = copy.deepcopy(first)
            second = more_for(house, paper, hands, 2)
            self.assertEqual(repr(first), repr(second))
            lists = self.lists(first) + self.lists(second) + [hands]
            self.assertEqual(len({id(some) for some in lists}), len(lists))
            for some in self.lists(first):
                some.append(99)
            self.assertEqual(second, kept_first)
            self.assertEqual(more_for(house, paper, hands, 2), kept_first)
            self.assertEqual((house, paper, hands), kept)


if __name__ == "__main__":
    unittest.main()
