import unittest

from rankseals.book import Book
from rankseals.errors import BadDay, NoDeed, NoHand, NoPaper, NoPart, Taken, Twice
from tests.books import BookCase, all_told, book_of, do, small_book
from tests.samples import letters

INK = ("put_paper", "ink", "q", 100, 10, "xena", "yves")


class Put(BookCase):
    """[14]: put_paper."""

    def test_a_paper(self):
        book = book_of()
        self.assertIsNone(book.put_paper("ink", "q", 100, 10, "xena", "yves"))
        self.assertIsNone(book.put_paper("axe", "p", 0, 0, "xena", "xena"))
        self.assertEqual(book.names(), ["axe", "ink"])
        self.assertEqual(book.paper_of("ink"), ("q", 100, "xena", "yves", 10))
        self.assertEqual(book.paper_of("axe"), ("p", 0, "xena", "xena", 0))

    def test_taken(self):
        book = book_of(INK)
        self.refused(Taken, book, *INK)
        self.refused(Taken, book, "put_paper", "ink", "p", 5, 20, "a", "b")

    def test_no_part(self):
        self.refused(NoPart, book_of(INK), "put_paper", "pen", "nopart", 5, 20, "a", "b")
        self.refused(NoPart, Book(), *INK)

    def test_taken_goes_first(self):
        self.refused(Taken, book_of(INK), "put_paper", "ink", "nopart", 5, 20, "a", "b")


class Sign(BookCase):
    """[14]: sign."""

    def test_numbers_of_each_paper_from_nought_on(self):
        book = book_of(INK, ("put_paper", "pen", "q", 5, 0, "xena", "yves"))
        told = do(book, ("sign", "ink", "a", "a", 10), ("sign", "pen", "a", "a", 10), ("sign", "ink", "b", "c", 10),
                  ("sign", "ink", "c", "b", 11), ("sign", "pen", "b", "b", 11))
        self.assertEqual(told, [0, 0, 1, 2, 1])
        self.assertEqual(book.hands_on("ink", 11), [(0, "a", "a", 10), (1, "b", "c", 10), (2, "c", "b", 11)])
        self.assertEqual(book.hands_on("pen", 11), [(0, "a", "a", 10), (1, "b", "b", 11)])

    def test_drawn_back_ones_are_counted(self):
        book = book_of(INK, ("sign", "ink", "a", "a", 10), ("draw_back", "ink", 0, 10))
        self.assertEqual(book.sign("ink", "a", "a", 10), 1)
        book.draw_back("ink", 1, 10)
        self.assertEqual(book.sign("ink", "b", "a", 10), 2)

    def test_a_refused_one_takes_no_number(self):
        book = book_of(INK, ("sign", "ink", "a", "a", 12))
        self.refused(Twice, book, "sign", "ink", "a", "b", 12)
        self.refused(BadDay, book, "sign", "ink", "b", "b", 11)
        self.assertEqual(book.sign("ink", "b", "b", 12), 1)

    def test_no_paper(self):
        self.refused(NoPaper, book_of(INK), "sign", "pen", "a", "b", 20)
        self.refused(NoPaper, Book(), "sign", "ink", "a", "b", 20)

    def test_a_day_before_the_papers(self):
        book = book_of(INK)
        self.refused(BadDay, book, "sign", "ink", "a", "a", 9)
        self.refused(BadDay, book, "sign", "ink", "a", "a", 0)
        self.assertEqual(book.sign("ink", "a", "a", 10), 0)

    def test_a_day_before_another_hands(self):
        book = book_of(INK, ("sign", "ink", "a", "a", 15))
        self.refused(BadDay, book, "sign", "ink", "b", "b", 14)
        self.assertEqual(do(book, ("sign", "ink", "b", "b", 15), ("sign", "ink", "c", "c", 17)), [1, 2])
        self.refused(BadDay, book, "sign", "ink", "d", "d", 16)

    def test_a_day_before_a_drawing_back(self):
        book = book_of(INK, ("sign", "ink", "a", "a", 15), ("draw_back", "ink", 0, 20))
        for day in (15, 19):
            self.refused(BadDay, book, "sign", "ink", "a", "a", day)
        self.assertEqual(book.sign("ink", "a", "a", 20), 1)

    def test_a_day_before_that_of_a_hand_which_is_drawn_back(self):
        book = book_of(INK, ("sign", "ink", "a", "a", 15), ("draw_back", "ink", 0, 15))
        self.refused(BadDay, book, "sign", "ink", "b", "b", 14)
        self.assertEqual(book.sign("ink", "b", "b", 15), 1)

    def test_days_of_other_papers_make_no_matter(self):
        book = book_of(INK, ("put_paper", "pen", "q", 5, 50, "xena", "yves"), ("sign", "pen", "a", "a", 60),
                       ("draw_back", "pen", 0, 70))
        self.assertEqual(book.sign("ink", "a", "a", 10), 0)

    def test_twice(self):
        book = book_of(INK, ("sign", "ink", "a", "b", 12))
        for holder, signer in (("a", "b"), ("a", "c"), ("c", "b"), ("a", "a"), ("b", "b")):
            self.refused(Twice, book, "sign", "ink", holder, signer, 12)
        self.assertEqual(do(book, ("sign", "ink", "b", "a", 12), ("sign", "ink", "c", "c", 12)), [1, 2])

    def test_twice_on_one_paper_alone(self):
        book = book_of(INK, ("put_paper", "pen", "q", 5, 0, "xena", "yves"), ("sign", "ink", "a", "b", 12))
        self.assertEqual(book.sign("pen", "a", "b", 12), 0)

    def test_not_twice_by_a_hand_that_is_drawn_back(self):
        for holder, signer in (("a", "b"), ("a", "c"), ("c", "b")):
            book = book_of(INK, ("sign", "ink", "a", "b", 12), ("sign", "ink", "d", "e", 12),
                           ("draw_back", "ink", 0, 13))
            self.refused(Twice, book, "sign", "ink", "d", signer, 13)
            self.assertEqual(book.sign("ink", holder, signer, 13), 2)
            self.refused(Twice, book, "sign", "ink", holder, signer, 13)

    def test_bad_day_goes_ahead_of_twice(self):
        book = book_of(INK, ("sign", "ink", "a", "b", 12))
        self.refused(BadDay, book, "sign", "ink", "a", "b", 11)

    def test_whether_it_may_fill_a_seat_makes_no_matter(self):
        book = book_of(INK)
        self.assertEqual(do(book, ("sign", "ink", "xena", "xena", 10), ("sign", "ink", "yves", "nobody", 10)), [0, 1])
        self.assertEqual(book.hands_on("ink", 10), [(0, "xena", "xena", 10), (1, "yves", "nobody", 10)])


class DrawBack(BookCase):
    """[14]: draw_back."""

    def book(self):
        return book_of(INK, ("sign", "ink", "a", "a", 12), ("sign", "ink", "b", "b", 14))

    def test_drawn_back(self):
        book = self.book()
        self.assertIsNone(book.draw_back("ink", 0, 16))
        self.assertEqual(book.hands_on("ink", 16), [(1, "b", "b", 14)])
        self.assertIsNone(book.draw_back("ink", 1, 16))
        self.assertEqual(book.hands_on("ink", 16), [])

    def test_no_paper(self):
        self.refused(NoPaper, self.book(), "draw_back", "pen", 0, 16)
        self.refused(NoPaper, self.book(), "draw_back", "pen", 9, 0)

    def test_no_hand(self):
        book = self.book()
        for n in (-1, -2, 2, 3, 999):
            self.refused(NoHand, book, "draw_back", "ink", n, 16)
        self.refused(NoHand, book_of(INK), "draw_back", "ink", 0, 16)

    def test_no_hand_that_is_drawn_back(self):
        book = self.book()
        book.draw_back("ink", 0, 16)
        for day in (16, 17):
            self.refused(NoHand, book, "draw_back", "ink", 0, day)
        self.assertIsNone(book.draw_back("ink", 1, 16))

    def test_bad_day(self):
        book = self.book()
        for day in (0, 12, 13):
            self.refused(BadDay, book, "draw_back", "ink", 0, day)
        self.assertIsNone(book.draw_back("ink", 0, 14))
        book = self.book()
        book.draw_back("ink", 1, 20)
        self.refused(BadDay, book, "draw_back", "ink", 0, 19)
        self.assertIsNone(book.draw_back("ink", 0, 20))

    def test_no_hand_goes_ahead_of_bad_day(self):
        book = self.book()
        self.refused(NoHand, book, "draw_back", "ink", 2, 0)
        book.draw_back("ink", 0, 16)
        self.refused(NoHand, book, "draw_back", "ink", 0, 15)

    def test_hands_of_other_papers_make_no_matter(self):
        book = self.book()
        book.put_paper("pen", "q", 5, 0, "xena", "yves")
        self.refused(NoHand, book, "draw_back", "pen", 0, 16)


class Lies(BookCase):
    """[14]: a hand lies from its own day on, but from its drawing back's on no more."""

    def lying(self, book, days):
        return [[hand[0] for hand in book.hands_on("ink", day)] for day in days]

    def test_a_hand_that_is_not_drawn_back(self):
        book = book_of(INK, ("sign", "ink", "a", "a", 12))
        self.assertEqual(self.lying(book, (0, 10, 11, 12, 13, 99999)), [[], [], [], [0], [0], [0]])

    def test_a_hand_that_is_drawn_back(self):
        book = book_of(INK, ("sign", "ink", "a", "a", 12), ("draw_back", "ink", 0, 15))
        self.assertEqual(self.lying(book, (11, 12, 13, 14, 15, 16, 99999)), [[], [0], [0], [0], [], [], []])

    def test_a_hand_that_is_drawn_back_on_its_own_day(self):
        book = book_of(INK, ("sign", "ink", "a", "a", 12), ("draw_back", "ink", 0, 12))
        self.assertEqual(self.lying(book, (11, 12, 13)), [[], [], []])

    def test_one_behind_the_other(self):
        book = book_of(INK, ("sign", "ink", "a", "a", 12), ("draw_back", "ink", 0, 14), ("sign", "ink", "a", "a", 14),
                       ("sign", "ink", "b", "b", 15), ("draw_back", "ink", 1, 16), ("sign", "ink", "a", "a", 18))
        self.assertEqual(self.lying(book, range(11, 20)), [[], [0], [0], [1], [1, 2], [2], [2], [2, 3], [2, 3]])


class Undo(BookCase):
    """[14]: undo."""

    # Behind the small book each of these is let.
    EACH = (
        ("add_part", "y", "s"), ("give_rank", "gus", 9, "p", 0, 9), ("give_leave", "a", "b", "p", 0, 9, 10),
        ("end_rank", 1, 30), ("end_rank", 1, 90), ("end_leave", 0, 7), ("end_leave", 2, 70), ("take_back", 0),
        ("give_again", 2), ("set_rule", "p", 0, ()), ("set_rule", "p", 0, ((3, ""),)), ("set_rule", "s", 5, ()),
        ("drop_rule", "q", 100), ("put_paper", "cap", "q", 0, 0, "a", "a"), ("sign", "pen", "bert", "bert", 20),
        ("draw_back", "ink", 1, 40),
    )

    def test_each_kind_of_deed(self):
        self.assertEqual(len({row[0] for row in self.EACH}), 12)
        for row in self.EACH:
            book = small_book()
            before = all_told(book)
            do(book, row)
            self.assertNotEqual(all_told(book), before, row)
            self.assertIsNone(book.undo())
            self.assertEqual(all_told(book), before, row)

    def test_several_in_a_row(self):
        book = small_book()
        told = []
        for row in self.EACH:
            told.append(all_told(book))
            do(book, row)
        for before in reversed(told):
            book.undo()
            self.assertEqual(all_told(book), before)

    def test_of_all_and_no_deed_then(self):
        book = small_book()
        for _ in range(book.count()):
            book.undo()
        self.assertEqual(all_told(book), all_told(Book()))
        self.refused(NoDeed, book, "undo")
        self.refused(NoDeed, book, "undo")
        book.add_part("p", "")
        self.assertIsNone(book.undo())
        self.refused(NoDeed, book, "undo")

    def test_no_deed_of_a_new_book(self):
        self.refused(NoDeed, Book(), "undo")

    def test_refused_ones_are_no_deeds(self):
        book = book_of(INK, ("sign", "ink", "a", "a", 12))
        self.refused(Taken, book, *INK)
        self.refused(Twice, book, "sign", "ink", "a", "b", 12)
        self.refused(NoPaper, book, "stands_on", "pen", 5)
        book.undo()
        self.assertEqual((book.hands_on("ink", 20), book.names()), ([], ["ink"]))
        book.undo()
        self.assertEqual(book.names(), [])

    def test_undo_is_no_deed(self):
        book = book_of(INK, ("sign", "ink", "a", "a", 12), ("sign", "ink", "b", "b", 12))
        book.undo()
        book.undo()
        self.assertEqual(book.hands_on("ink", 20), [])
        self.assertEqual(book.names(), ["ink"])

    def test_deeds_between_undos(self):
        book = book_of(INK, ("sign", "ink", "a", "a", 12), ("sign", "ink", "b", "b", 13), ("undo",),
                       ("sign", "ink", "c", "c", 14), ("undo",), ("undo",))
        self.assertEqual(all_told(book), all_told(book_of(INK)))

    def test_numbers_come_again(self):
        book = book_of(INK)
        for _ in range(3):
            self.assertEqual(do(book, ("give_rank", "a", 1, "p", 0, 9), ("give_leave", "a", "b", "p", 0, 9, 5),
                                ("sign", "ink", "a", "a", 12)), [0, 0, 0])
            do(book, *[("undo",)] * 3)

    def test_names_come_again(self):
        book = book_of(INK, ("undo",), ("put_paper", "ink", "p", 7, 3, "a", "b"), ("add_part", "y", ""), ("undo",),
                       ("add_part", "y", "p"))
        self.assertEqual(book.paper_of("ink"), ("p", 7, "a", "b", 3))
        self.assertIn(("y", "p"), book.house()[0])

    def test_days_of_what_is_undone_count_no_more(self):
        book = book_of(INK, ("sign", "ink", "a", "a", 12), ("draw_back", "ink", 0, 40))
        self.refused(BadDay, book, "sign", "ink", "b", "b", 39)
        self.refused(BadDay, book, "more_on", "ink", 39)
        book.undo()
        self.assertEqual(book.more_on("ink", 12)[0], "more")
        self.assertEqual(book.sign("ink", "b", "b", 12), 1)
        do(book, ("sign", "ink", "c", "c", 30), ("undo",))
        self.assertIsNone(book.draw_back("ink", 0, 12))

    def test_a_drawing_back_undone(self):
        book = book_of(INK, ("sign", "ink", "a", "a", 12), ("draw_back", "ink", 0, 14), ("undo",))
        self.assertEqual(book.hands_on("ink", 20), [(0, "a", "a", 12)])
        self.refused(Twice, book, "sign", "ink", "a", "a", 12)
        self.assertIsNone(book.draw_back("ink", 0, 13))

    def test_a_rule_in_the_place_of_another_undone(self):
        book = book_of(("set_rule", "p", 0, ((3, ""),)), ("set_rule", "p", 0, ((5, ""),)), ("undo",))
        self.assertEqual(book.house()[3], (("p", 0, ((3, ""),)),))
        do(book, ("drop_rule", "p", 0), ("undo",))
        self.assertEqual(book.house()[3], (("p", 0, ((3, ""),)),))


class Bounds(BookCase):
    """[2]: ten papers, ten hands on each with those that were drawn back, 160 deeds."""

    def test_as_many_as_may_be(self):
        book = book_of(("set_rule", "p", 0, ((1, ""),) * 6))
        do(book, *[("give_rank", letters(at), 9, "p", 0, 99999) for at in range(10)])
        papers = ["pa" + letters(at) for at in range(10)]
        do(book, *[("put_paper", name, "s", 10 ** 9, 0, "xena", "yves") for name in papers])
        for name in papers:
            self.assertEqual(do(book, *[("sign", name, letters(at), letters(at), at) for at in range(10)]),
                             list(range(10)))
        do(book, *[("draw_back", name, at, 99999) for name in papers[:8] for at in range(4)])
        do(book, ("draw_back", "paaa", 4, 99999), ("draw_back", "paaa", 9, 99999))
        self.assertEqual(book.count(), 160)
        self.assertEqual(book.standing(4), [])
        self.assertEqual(book.standing(5), papers)
        self.assertEqual(book.standing(99999), papers[1:])
        self.assertEqual(book.calls_on(99999), [("paaa", 2)])
        for _ in range(160):
            book.undo()
        self.refused(NoDeed, book, "undo")


if __name__ == "__main__":
    unittest.main()
