import random
import unittest

from rankseals.further import more_for
from rankseals.furthercheck import shows_more
from rankseals.houses import is_house
from tests.samples import NET, ODD_THINGS, PARTS, letters, nest, odd_case, put, says_so, small_changes

PAPER = ("q", 100, "xena", "yves")


class Case(unittest.TestCase):
    def yes(self, thing, hands=None, day=7, paper=PAPER, house=None):
        self.told(True, thing, hands, day, paper, house)

    def no(self, thing, hands=None, day=7, paper=PAPER, house=None):
        self.told(False, thing, hands, day, paper, house)

    def told(self, so, thing, hands, day, paper, house):
        house, hands = house or self.house, self.hands if hands is None else hands
        self.assertIs(shows_more(house, paper, hands, day, thing), so, thing)
        self.assertIs(says_so(house, paper, hands, day, thing), so, thing)

    def any_form(self, right):
        """Things of any form, in the whole one's place and in that of each of its own."""
        for odd in ODD_THINGS:
            # A list with a nought may be another right one.
            for place in range(len(right)):
                if odd not in ([], [0]):
                    self.no(put(right, (place,), odd))
            self.no(odd)
            self.no((right[0], odd))
            self.no((right[0],) + (odd,) * (len(right) - 1))
        for depth in range(1, 18):
            for core in (0, None, "anna", [], ()):
                deep = nest(depth, core)
                self.no(deep)
                for place in range(len(right)):
                    if deep not in ([0], ["anna"]):
                        self.no(put(right, (place,), deep))
                    if isinstance(right[place], list):
                        self.no(put(right, (place,), right[place] + [deep]))


class ShowsNews(Case):
    """[12]: whether something tells the fewest new ones, with all that shows it."""

    # Seats 0 and 1 ask rank 5, seat 2 rank 8, which dora alone has; emil may let anna sign, anna bert, bert cleo.
    house = (
        PARTS,
        ((0, "anna", 5, "p", 5, 9), (1, "bert", 5, "p", 5, 9), (2, "dora", 8, "p", 5, 9), (3, "emil", 5, "q", 5, 9),
         (4, "fred", 4, "p", 5, 9), (5, "xena", 9, "p", 5, 9), (6, "ida", 5, "p", 8, 9)),
        ((0, "anna", "bert", "p", 5, 9, 100), (1, "bert", "cleo", "p", 5, 9, 100), (2, "emil", "anna", "p", 5, 9, 100)),
        (("p", 0, ((5, ""), (5, ""), (8, ""))),),
    )
    hands = [("emil", "anna", 6), ("gina", "hugo", 6)]
    right = ("more", [("anna", "bert"), ("dora", "dora")], [(0, 0), (1, 2), (2, 3)], ([], [0]))

    def test_what_is_right(self):
        self.assertTrue(is_house(self.house))
        self.yes(self.right)
        self.yes(put(self.right, (2,), [(0, 2), (1, 0), (2, 3)]))
        self.yes(put(self.right, (1, 0), ("anna", "cleo")))
        self.yes(put(self.right, (1, 0), ("bert", "bert")))
        self.yes(put(self.right, (1, 0), ("bert", "cleo")))

    def test_what_more_for_tells(self):
        self.yes(more_for(self.house, PAPER, self.hands, 7))
        self.yes(more_for(self.house, PAPER, [], 7), [])
        self.yes(more_for(self.house, PAPER, self.hands[1:], 8), self.hands[1:], 8)

    def test_a_new_one_left_out_or_twice_or_out_of_order(self):
        word, news, filling, cover = self.right
        self.no((word, news[:1], filling, cover))
        self.no((word, news[1:], filling, cover))
        self.no((word, [], filling, cover))
        self.no((word, [news[0]] + news, filling, cover))
        self.no((word, news + [news[1]], filling, cover))
        self.no((word, news[:1] * 2, filling, cover))
        self.no((word, news[::-1], filling, cover))
        self.no((word, news[::-1], [(0, 0), (1, 3), (2, 2)], cover))

    def test_more_new_ones_than_are_needed(self):
        word, news, filling, cover = self.right
        self.no((word, news + [("fred", "fred")], filling, cover))
        self.no((word, news + [("fred", "fred")], filling, ([], [])))
        self.no((word, [("anna", "bert"), ("bert", "cleo"), ("dora", "dora")], [(0, 2), (1, 3), (2, 4)], ([], [])))
        self.no((word, [("anna", "bert"), ("bert", "cleo"), ("dora", "dora")], [(0, 2), (1, 3), (2, 4)], cover))

    def test_a_holder_or_a_signer_that_a_hand_has(self):
        self.no(put(self.right, (1,), [("anna", "anna"), ("dora", "dora")]))
        self.no(put(self.right, (1,), [("dora", "dora"), ("emil", "emil")]))
        self.no(("more", [("dora", "dora"), ("emil", "emil")], [(0, 0), (1, 3), (2, 2)], ([], [0])))
        # Without that hand the same would be right.
        self.yes(("more", [("anna", "anna"), ("bert", "bert"), ("dora", "dora")], [(0, 0), (1, 1), (2, 2)],
                  ([], [])), [])
        self.no(("more", [("anna", "anna"), ("bert", "bert"), ("dora", "dora")], [(0, 1), (1, 2), (2, 3)],
                 ([], [])), [("gina", "anna", 6)])
        self.no(("more", [("anna", "anna"), ("bert", "bert"), ("dora", "dora")], [(0, 1), (1, 2), (2, 3)],
                 ([], [])), [("anna", "gina", 6)])
        self.yes(("more", [("anna", "bert"), ("bert", "cleo"), ("dora", "dora")], [(0, 1), (1, 2), (2, 3)],
                  ([], [])), [("gina", "anna", 6)])

    def test_holders_or_signers_twice(self):
        self.no(("more", [("anna", "bert"), ("anna", "cleo"), ("dora", "dora")], [(0, 0), (1, 1), (2, 2)],
                 ([], [])), [])
        self.no(("more", [("anna", "bert"), ("bert", "bert"), ("dora", "dora")], [(0, 0), (1, 1), (2, 2)],
                 ([], [])), [])
        self.no(("more", [("anna", "cleo"), ("bert", "cleo"), ("dora", "dora")], [(0, 0), (1, 1), (2, 2)],
                 ([], [])), [])

    def test_without_a_row(self):
        for pair in (("anna", "dora"), ("anna", "zeno"), ("bert", "anna"), ("cleo", "bert"), ("xena", "xena"),
                     ("yves", "yves"), ("anna", "xena"), ("ida", "gina")):
            self.no(put(self.right, (1, 0), pair))
        self.no(self.right, None, 10)
        self.no(self.right, None, 4)
        self.no(self.right, None, 7, ("q", 101, "xena", "yves"))
        self.no(self.right, None, 7, ("q", 100, "xena", "bert"))
        self.no(self.right, None, 7, ("q", 100, "dora", "yves"))
        self.yes(self.right, None, 7, ("q", 100, "zeno", "yves"))

    def test_without_the_rank(self):
        self.no(("more", [("dora", "dora"), ("fred", "fred")], [(0, 0), (1, 3), (2, 2)], ([], [0])))
        self.no(("more", [("dora", "dora"), ("ida", "ida")], [(0, 0), (1, 3), (2, 2)], ([], [0])))
        self.yes(("more", [("dora", "dora"), ("ida", "ida")], [(0, 0), (1, 3), (2, 2)], ([], [0])), None, 8)
        self.no(("more", [("anna", "bert"), ("dora", "dora")], [(0, 0), (1, 3), (2, 2)], ([], [0])))
        self.no(("more", [("dora", "dora"), ("zeno", "zeno")], [(0, 0), (1, 3), (2, 2)], ([], [0])))

    def test_the_filling(self):
        for filling in ([(0, 0), (1, 2)], [(1, 2), (2, 3)], [], [(0, 0), (1, 2), (2, 2)], [(0, 0), (1, 0), (2, 3)],
                        [(0, 0), (2, 3), (1, 2)], [(0, 0), (0, 0), (1, 2), (2, 3)], [(0, 1), (1, 2), (2, 3)],
                        [(0, 0), (1, 2), (2, 4)], [(0, 0), (1, 2), (3, 3)], [(0, 0), (1, 2), (2, -1)],
                        [(0, 0), (1, 2), (2, 3), (3, 1)], [(0, 0), (1, 0), (2, 1)], [(0, 0), (1, 2), [2, 3]],
                        [(False, 0), (1, 2), (2, 3)], [(0, 0), (True, 2), (2, 3)], ((0, 0), (1, 2), (2, 3)),
                        [(0, 2), (1, 3), (2, 0)], [(-3, 0), (1, 2), (2, 3)], [(0, 0), (1, 2), (2,)]):
            self.no(put(self.right, (2,), filling))

    def test_the_cover(self):
        for cover in (([], []), ([], [1]), ([0], []), ([2], []), ([], [0, 1]), ([0], [0]), ([2], [0]), ([], [0, 0]),
                      ([], [2]), ([], [3]), ([], [-2]), ([], [False]), ([], (0,)), ((), [0]), [[], [0]], ([0],),
                      ([], [0], []), ([0, 1], [])):
            self.no(put(self.right, (3,), cover))

    def test_a_cover_of_seats(self):
        house = (PARTS, self.house[1], self.house[2], (("p", 0, ((8, ""), (5, ""))),))
        hands = [("dora", "dora", 6), ("emil", "xena", 6)]
        for cover in (([0, 1], []), ([], [0])):
            self.told(cover == ([], [0]), ("more", [("anna", "anna")], [(0, 0), (1, 2)], cover), hands, 7, PAPER, house)
        house = (PARTS, self.house[1], self.house[2], (("p", 0, ((5, "q"), (8, "z"))),))
        self.assertEqual(more_for(house, PAPER, [("emil", "emil", 6)], 7)[0], "none")
        house = (PARTS, self.house[1] + ((7, "jan", 9, "z", 7, 7),), self.house[2], (("p", 0, ((5, "q"), (8, "z"))),))
        for cover in (([0], []), ([], [0])):
            self.yes(("more", [("jan", "jan")], [(0, 0), (1, 1)], cover), [("emil", "emil", 6)], 7, PAPER, house)

    def test_a_paper_that_stands_already(self):
        hands = [("emil", "anna", 6), ("dora", "dora", 6), ("bert", "bert", 9)]
        right = ("more", [], [(0, 0), (1, 2), (2, 1)], ([0, 1, 2], []))
        self.yes(right, hands)
        self.yes(right, hands, 99)
        self.yes(put(right, (3,), ([], [0, 1, 2])), hands)
        self.no(put(right, (1,), [("ida", "ida")]), hands, 8)
        self.no(put(right, (1,), ()), hands)
        self.no(put(right, (3,), ([0, 1], [])), hands)
        self.no(right, hands[:2])
        self.no(right, hands[1:] + hands[:1])

    def test_no_seats(self):
        house = self.house[:3] + ((),)
        self.yes(("more", [], [], ([], [])), None, 7, PAPER, house)
        self.yes(("more", [], [], ([], [])), [], 7, PAPER, house)
        self.no(("more", [("anna", "bert")], [], ([], [])), None, 7, PAPER, house)
        self.no(("none", [], [], [], []), None, 7, PAPER, house)

    def test_other_words_and_lengths(self):
        for word in ("none", "More", "", "mor", "more ", None, 0, True, ["more"], ("more",)):
            self.no(put(self.right, (0,), word))
        self.no(self.right[:3])
        self.no(self.right + ([],))
        self.no(self.right[1:])
        self.no(list(self.right))
        self.no(("more",))
        self.no("more")
        self.no(("more", self.right))
        self.no((self.right,))
        self.no(("more", self.right[2], self.right[1], self.right[3]))

    def test_people_are_names(self):
        for name in ("", "Anna", "anna1", "toolonger", None, 0, True, ["anna"], ("anna",)):
            self.no(put(self.right, (1, 0, 0), name))
            self.no(put(self.right, (1, 0, 1), name))
            self.no(put(self.right, (1, 0), (name, name)))

    def test_lists_and_tuples_exchanged(self):
        self.no(put(self.right, (1,), tuple(self.right[1])))
        self.no(put(self.right, (1, 0), ["anna", "bert"]))
        self.no(put(self.right, (1, 0), "ab"))
        self.no(put(self.right, (1, 0), ("anna", "bert", 7)))
        self.no(put(self.right, (1, 0), ("anna",)))

    def test_things_of_any_form(self):
        self.any_form(self.right)

    def test_each_small_change(self):
        for thing in small_changes(self.right):
            so = says_so(self.house, PAPER, self.hands, 7, thing)
            self.assertIs(shows_more(self.house, PAPER, self.hands, 7, thing), so, thing)


class ShowsNone(Case):
    """[12]: whether something shows that no new ones do."""

    # Five seats: 0 by hand 0 alone, 1 by hand 0 or anna, 2 by anna, 3 and 4 by bert or cleo, whose one signer is dora.
    house = (
        tuple((letters(at), "") for at in range(5)),
        ((0, "emil", 1, "aa", 0, 9), (1, "emil", 1, "ab", 0, 9), (2, "anna", 1, "ab", 0, 9),
         (3, "anna", 1, "ac", 0, 9), (4, "bert", 1, "ad", 0, 9), (5, "cleo", 1, "ad", 0, 9),
         (6, "bert", 1, "ae", 0, 9), (7, "cleo", 1, "ae", 0, 9), (8, "xena", 1, "aa", 0, 9)),
        ((0, "bert", "dora", "aa", 0, 9, 100), (1, "cleo", "dora", "aa", 0, 9, 100),
         (2, "anna", "gina", "aa", 0, 9, 100)),
        (("aa", 0, tuple((1, letters(at)) for at in range(5))),),
    )
    hands = [("emil", "emil", 3), ("hugo", "bert", 3), ("ida", "cleo", 3)]
    right = ("none", [], [0], ["anna"], ["dora"])

    def yes(self, thing, hands=None, day=7, paper=NET, house=None):
        self.told(True, thing, hands, day, paper, house)

    def no(self, thing, hands=None, day=7, paper=NET, house=None):
        self.told(False, thing, hands, day, paper, house)

    def test_what_is_right(self):
        self.assertTrue(is_house(self.house))
        self.yes(self.right)
        self.yes(("none", [0], [0], ["anna"], ["dora"]))
        self.yes(("none", [0, 1, 2], [], [], ["dora"]))
        self.yes(("none", [], [0, 1], ["anna"], ["dora"]))
        self.yes(("none", [], [0], ["anna", "bert"], ["dora"]))
        self.yes(("none", [], [0], ["anna", "zeno"], ["dora"]))
        self.yes(("none", [], [0], ["anna"], ["dora", "xena"]))
        self.yes(("none", [], [0], ["anna", "bert", "cleo"], []))
        self.yes(("none", [2], [0], ["anna"], ["dora"]))

    def test_what_more_for_tells(self):
        self.yes(more_for(self.house, NET, self.hands, 7))
        for hands in ([], self.hands[:1], self.hands[1:]):
            self.yes(more_for(self.house, NET, hands, 7), hands)
            self.yes(more_for(self.house, NET, hands, 10), hands, 10)

    def test_a_list_left_out(self):
        for place in range(1, 5):
            self.no(self.right[:place] + self.right[place + 1:])
            if self.right[place]:
                self.no(put(self.right, (place,), []))

    def test_one_more_or_fewer(self):
        self.no(("none", [], [], ["anna"], ["dora"]))
        self.no(("none", [], [0], [], ["dora"]))
        self.no(("none", [], [0], ["anna"], []))
        self.no(("none", [], [], [], []))
        # One more shuts no less, but two more are as many together as seats.
        self.no(("none", [0, 1], [0], ["anna"], ["dora"]))
        self.no(("none", [], [0, 1, 2], ["anna"], ["dora"]))
        self.no(("none", [], [0], ["anna", "bert", "cleo"], ["dora"]))
        self.no(("none", [], [0], ["anna"], ["dora", "gina", "zeno"]))
        self.no(("none", [0, 1, 2, 3, 4], [], [], []))
        self.no(("none", [0, 1, 2, 3, 4], [0], ["anna"], ["dora"]))

    def test_what_shuts_too_little(self):
        for thing in (("none", [0], [], ["anna"], ["dora"]), ("none", [], [1], ["anna"], ["dora"]),
                      ("none", [], [0], ["bert"], ["dora"]), ("none", [], [0], ["anna"], ["bert"]),
                      ("none", [], [0], [], ["anna", "dora"]), ("none", [], [0], ["anna", "dora"], []),
                      ("none", [], [0], ["anna", "bert"], []), ("none", [3], [0], ["anna"], []),
                      ("none", [0, 1], [], [], ["dora"]), ("none", [0, 1, 2, 3], [], [], [])):
            self.no(thing)
        self.yes(("none", [0, 1], [], ["anna"], ["dora"]))
        self.yes(("none", [], [0], ["anna"], ["dora"]), self.hands + [("jan", "gina", 3)])
        self.yes(("none", [], [0], [], ["anna", "dora"]), self.hands + [("jan", "gina", 3)])

    def test_what_the_hands_take_away_needs_no_shutting(self):
        # Without the hands of hugo and ida bert and cleo may sign by themselves.
        self.no(self.right, self.hands[:1])
        self.no(("none", [], [0], ["anna"], ["bert", "cleo"]), self.hands[:1])
        self.yes(("none", [2], [0], ["anna", "bert"], []), self.hands[:1] + [("cleo", "zeno", 3)])
        self.yes(("none", [], [0], ["anna"], ["dora"]), self.hands + [("cleo", "zeno", 3)])
        # A new one that isn't, for a hand has its holder, needs none either.
        self.yes(("none", [], [0], [], ["dora"]), self.hands + [("anna", "zeno", 3)])
        self.yes(("none", [], [], ["anna"], ["dora"]), [("emil", "zeno", 3)] + self.hands[1:])

    def test_days_and_sides(self):
        self.yes(("none", [], [0], [], []), None, 10)
        self.no(("none", [], [], [], []), None, 10)
        self.no(("none", [], [0], [], []), None, 9)
        self.yes(("none", [], [0], [], ["dora"]), None, 7, ("aa", 100, "anna", "xena"))
        self.yes(("none", [], [0], ["anna"], []), None, 7, ("aa", 100, "xena", "dora"))
        self.yes(("none", [], [0], ["anna"], []), None, 7, ("aa", 101, "xena", "yves"))
        self.yes(("none", [], [], ["anna"], ["dora"]), None, 7, ("aa", 100, "xena", "emil"))
        self.no(self.right, None, 7, ("aa", 100, "zeno", "yves"))
        self.yes(("none", [], [0], ["anna", "xena"], ["dora"]), None, 7, ("aa", 100, "zeno", "yves"))
        self.yes(("none", [0], [0], ["anna"], ["dora"]), None, 7, ("aa", 100, "zeno", "yves"))

    def test_out_of_order_or_twice(self):
        for thing in (("none", [2, 0, 1], [], [], ["dora"]), ("none", [0, 0], [0], ["anna"], []),
                      ("none", [], [1, 0], ["anna"], ["dora"]), ("none", [], [0, 0], ["anna"], ["dora"]),
                      ("none", [], [0], ["bert", "anna"], ["dora"]), ("none", [], [0], ["anna", "anna"], ["dora"]),
                      ("none", [], [0], ["anna"], ["gina", "dora"]), ("none", [], [0], ["anna"], ["dora", "dora"]),
                      ("none", [], [0], ["cleo", "bert", "anna"], [])):
            self.no(thing)

    def test_numbers_that_there_are_not(self):
        for wrong in (-1, 5, 10 ** 20, True, False, None, "0", [0], (0,)):
            self.no(("none", [wrong], [0], ["anna"], ["dora"]))
        for wrong in (-1, -3, 3, 10 ** 20, True, False, None, "0", [0], (0,)):
            self.no(("none", [], [wrong], ["anna"], ["dora"]))
            self.no(("none", [], [0, wrong], ["anna"], ["dora"]))

    def test_people_are_names(self):
        for wrong in ("", "Zeno", "zeno1", "zeno ", "zzzzzzzzz", None, 0, True, ["zeno"], ("zeno",), "zen\n"):
            self.no(("none", [], [0], ["anna", wrong], ["dora"]))
            self.no(("none", [], [0], ["anna"], ["dora", wrong]))
            self.no(("none", [], [0], [wrong], ["dora"]))
        self.no(("none", [], [0], "a", ["dora"]))
        self.no(("none", [], [0], ["anna"], "dora"))

    def test_other_words_and_lengths(self):
        for word in ("more", "None", "", "non", "none ", None, 0, False, ["none"], ("none",)):
            self.no(put(self.right, (0,), word))
        self.no(self.right[:4])
        self.no(self.right + ([],))
        self.no(self.right[1:])
        self.no(list(self.right))
        self.no(("none",))
        self.no("none")
        self.no(("none", self.right[1:]))
        for place in range(1, 5):
            self.no(put(self.right, (place,), tuple(self.right[place])))

    def test_where_new_ones_do(self):
        hands = [("emil", "emil", 3)]
        house = (self.house[0], self.house[1], (), (("aa", 0, ((1, "aa"), (1, "ab"), (1, "ad"))),))
        told = more_for(house, NET, hands, 7)
        self.assertEqual(told[0], "more")
        for thing in (("none", [], [0], ["anna"], []), ("none", [0, 1], [], [], []), ("none", [], [], [], [])):
            self.no(thing, hands, 7, NET, house)

    def test_things_of_any_form(self):
        self.any_form(self.right)

    def test_each_small_change(self):
        for right in (self.right, ("none", [0, 1, 2], [], [], ["dora"]), ("none", [], [0], ["anna", "bert"], ["dora"])):
            for thing in small_changes(right):
                so = says_so(self.house, NET, self.hands, 7, thing)
                self.assertIs(shows_more(self.house, NET, self.hands, 7, thing), so, thing)


class ByChance(Case):
    """[12]: small changes of what is told of many small houses, beside the plain words."""

    def test_small_changes(self):
        chance = random.Random(17)
        seen = {}
        for _ in range(60):
            house, paper, hands = odd_case(chance, 4, 4)
            told = more_for(house, paper, hands, 2)
            for thing in chance.sample(small_changes(told), 40):
                so = says_so(house, paper, hands, 2, thing)
                self.assertIs(shows_more(house, paper, hands, 2, thing), so, thing)
                seen[told[0], so] = seen.get((told[0], so), 0) + 1
        for word in ("more", "none"):
            self.assertGreater(seen[word, False], 100)
            self.assertGreater(seen[word, True], 0)

    def test_what_is_told_of_another_case(self):
        chance = random.Random(18)
        cases = [odd_case(chance, 3, 3) for _ in range(60)]
        every = [more_for(house, paper, hands, 2) for house, paper, hands in cases]
        shown = 0
        for house, paper, hands in cases:
            for thing in every:
                so = says_so(house, paper, hands, 2, thing)
                self.assertIs(shows_more(house, paper, hands, 2, thing), so, thing)
                shown += so
        self.assertGreater(shown, 100)

    def test_lists_by_chance(self):
        chance = random.Random(19)
        shown = 0
        for at in range(4000):
            if at % 40 == 0:
                house, paper, hands = odd_case(chance, 4, 4)
            thing = ("none",) + tuple(sorted(chance.sample(some, min(len(some), chance.randint(0, 2))))
                                      for some in (range(4), range(4), "abcdex", "abcdex"))
            so = says_so(house, paper, hands, 2, thing)
            self.assertIs(shows_more(house, paper, hands, 2, thing), so, thing)
            shown += so
        self.assertGreater(shown, 20)

    def test_nothing_is_changed(self):
        for thing in (ShowsNews.right, ShowsNone.right, ("more", [["a"], None], [(1, 0), (0, 1)], ([2, 1], [0]))):
            shown = repr((thing, ShowsNews.hands))
            shows_more(ShowsNews.house, PAPER, ShowsNews.hands, 7, thing)
            self.assertEqual(repr((thing, ShowsNews.hands)), shown)


if __name__ == "__main__":
    unittest.main()
