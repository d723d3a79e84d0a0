import unittest

from rankseals.book import Book
from rankseals.errors import BadDay, NoDeed, NoPaper, Taken
from rankseals.filling import filled
from rankseals.further import how_many, more_for
from rankseals.fillcheck import shows_filled
from rankseals.furthercheck import shows_more
from tests.books import BookCase, all_told, book_of, do, small_book

# Three of rank 3 and more in p; seats for two of them and one of rank 5.
HOUSE = (
    ("give_rank", "anna", 5, "p", 0, 90), ("give_rank", "bert", 3, "p", 0, 90), ("give_rank", "cleo", 3, "p", 0, 90),
    ("give_leave", "anna", "dora", "p", 0, 90, 500),
    ("set_rule", "p", 0, ((3, ""), (5, ""))), ("set_rule", "r", 0, ((9, ""),)), ("set_rule", "z", 0, ()),
)
INK = ("put_paper", "ink", "q", 100, 10, "xena", "yves")
HANDS = (("sign", "ink", "cleo", "nobody", 12), ("sign", "ink", "bert", "bert", 12), ("draw_back", "ink", 0, 14),
         ("sign", "ink", "anna", "dora", 16), ("draw_back", "ink", 1, 20), ("sign", "ink", "cleo", "cleo", 22))


def ink_book():
    """Hands 0 (fills nothing) 12 to 13, 1 12 to 19, 2 from 16 on, 3 from 22 on."""
    return book_of(*HOUSE, INK, *HANDS)


class Names(BookCase):
    def test_they_rise(self):
        book = Book()
        self.assertEqual(book.names(), [])
        do(book, ("add_part", "p", ""))
        for name in ("pen", "ink", "wax", "a", "zz"):
            book.put_paper(name, "p", 5, 0, "xena", "yves")
        self.assertEqual(book.names(), ["a", "ink", "pen", "wax", "zz"])

    def test_unknown_papers(self):
        for book in (Book(), small_book()):
            self.refused(NoPaper, book, "paper_of", "nopaper")
            for word in ("hands_on", "stands_on", "filled_on", "more_on"):
                for day in (0, 15, 99999):
                    self.refused(NoPaper, book, word, "nopaper", day)

    def test_a_part_or_a_person_is_no_paper(self):
        for name in ("p", "anna", ""):
            self.refused(NoPaper, small_book(), "stands_on", name, 50)


class Stands(BookCase):
    def test_days(self):
        book = ink_book()
        told = [day for day in range(30) if book.stands_on("ink", day)]
        self.assertEqual(told, [16, 17, 18, 19, 22, 23, 24, 25, 26, 27, 28, 29])
        self.assertIs(book.stands_on("ink", 16), True)
        self.assertIs(book.stands_on("ink", 21), False)
        self.assertIs(book.stands_on("ink", 9), False)
        self.assertTrue(book.stands_on("ink", 99999))

    def test_a_paper_without_seats_stands_from_its_own_day_on(self):
        book = book_of(*HOUSE, ("put_paper", "wax", "z", 5, 10, "xena", "yves"))
        told = [book.stands_on("wax", day) for day in (0, 9, 10, 11, 99999)]
        self.assertEqual(told, [False, False, True, True, True])

    def test_each_hand_on_its_own_day(self):
        book = book_of(*HOUSE, INK, ("sign", "ink", "anna", "dora", 90), ("sign", "ink", "bert", "bert", 90))
        self.assertTrue(book.stands_on("ink", 91))
        self.assertTrue(book.stands_on("ink", 99999))
        book.undo()
        book.sign("ink", "bert", "bert", 91)
        self.assertFalse(book.stands_on("ink", 91))

    def test_sides_fill_nothing(self):
        book = book_of(*HOUSE, ("put_paper", "wax", "q", 5, 10, "anna", "bert"),
                       ("put_paper", "pen", "q", 5, 10, "x", "dora"),
                       ("sign", "wax", "cleo", "cleo", 12), ("sign", "wax", "anna", "anna", 12),
                       ("sign", "pen", "anna", "dora", 12), ("sign", "pen", "bert", "bert", 12))
        self.assertEqual(book.standing(12), [])
        do(book, ("draw_back", "pen", 0, 12), ("sign", "pen", "anna", "anna", 12))
        self.assertEqual(book.standing(12), ["pen"])


class Filled(BookCase):
    def test_the_numbers_of_hands_in_the_place_of_places(self):
        book = ink_book()
        self.assertEqual(book.filled_on("ink", 11)[0], [])
        self.assertEqual([hand for seat, hand in book.filled_on("ink", 12)[0]], [1])
        self.assertEqual([hand for seat, hand in book.filled_on("ink", 15)[0]], [1])
        self.assertEqual(book.filled_on("ink", 18)[0], [(0, 1), (1, 2)])
        self.assertEqual([hand for seat, hand in book.filled_on("ink", 21)[0]], [2])
        self.assertEqual(book.filled_on("ink", 25)[0], [(0, 3), (1, 2)])

    def test_ahead_of_the_paper_there_are_no_hands(self):
        self.assertEqual(ink_book().filled_on("ink", 3), ([], ([], [])))
        book = book_of(*HOUSE, ("put_paper", "wax", "z", 5, 10, "xena", "yves"))
        self.assertEqual(book.filled_on("wax", 3), ([], ([], [])))
        self.assertEqual(book.filled_on("wax", 13), ([], ([], [])))

    def test_a_cover_of_hands_has_their_numbers(self):
        # One hand for many seats: its number must be the cover.
        book = book_of(("give_rank", "anna", 5, "p", 0, 90), ("set_rule", "p", 0, ((1, ""),) * 3), INK,
                       ("sign", "ink", "bert", "bert", 10), ("sign", "ink", "cleo", "cleo", 10),
                       ("draw_back", "ink", 0, 11), ("sign", "ink", "anna", "anna", 11))
        filling, cover = book.filled_on("ink", 11)
        self.assertEqual([hand for seat, hand in filling], [2])
        self.assertEqual(cover, ([], [2]))
        book.draw_back("ink", 1, 12)
        self.assertEqual(book.filled_on("ink", 12)[1], ([], [2]))

    def test_as_filled_tells_it(self):
        book = ink_book()
        paper = book.paper_of("ink")[:4]
        for day in range(8, 30):
            hands = book.hands_on("ink", day)
            numbers = [hand[0] for hand in hands]
            bare = [hand[1:] for hand in hands]
            filling, cover = book.filled_on("ink", day)
            by_places = ([(seat, numbers.index(n)) for seat, n in filling],
                         (cover[0], [numbers.index(n) for n in cover[1]]))
            self.assertTrue(shows_filled(book.house(), paper, bare, by_places))
            self.assertEqual(len(filling), len(filled(book.house(), paper, bare)[0]))
            self.assertEqual(len(filling) == 2, book.stands_on("ink", day))


class More(BookCase):
    def test_refused_before_the_last_told_day(self):
        book = book_of(*HOUSE, INK)
        for day in (0, 9):
            self.refused(BadDay, book, "more_on", "ink", day)
        self.assertEqual(how_many(book.more_on("ink", 10)), 2)
        for row in HANDS:
            do(book, row)
            self.refused(BadDay, book, "more_on", "ink", row[-1] - 1)
            self.assertTrue(book.more_on("ink", row[-1]))

    def test_no_paper_goes_first(self):
        self.refused(NoPaper, ink_book(), "more_on", "pen", 0)

    def test_days(self):
        book = ink_book()
        self.assertEqual(book.more_on("ink", 22)[:3], ("more", [], [(0, 1), (1, 0)]))
        do(book, ("draw_back", "ink", 2, 30))
        self.assertEqual(how_many(book.more_on("ink", 90)), 1)
        self.assertEqual(book.more_on("ink", 91)[0], "none")
        self.assertIsNone(how_many(book.more_on("ink", 91)))

    def test_hands_by_places(self):
        book = ink_book()
        do(book, ("draw_back", "ink", 3, 30))
        told = book.more_on("ink", 40)
        self.assertEqual(told[0], "more")
        # The hand 2 lies in the first place, the new one goes on behind it.
        self.assertEqual(told[2], [(0, 1), (1, 0)])
        hands = [hand[1:] for hand in book.hands_on("ink", 40)]
        self.assertTrue(shows_more(book.house(), book.paper_of("ink")[:4], hands, 40, told))
        self.assertEqual(told, more_for(book.house(), book.paper_of("ink")[:4], hands, 40))

    def test_a_paper_that_none_fill(self):
        book = book_of(*HOUSE, ("put_paper", "wax", "r", 5, 10, "xena", "yves"))
        self.assertEqual(book.more_on("wax", 10)[0], "none")


class Whole(BookCase):
    """standing and calls_on over all papers."""

    def book(self):
        return book_of(
            *HOUSE, INK, ("put_paper", "wax", "r", 5, 12, "xena", "yves"),
            ("put_paper", "cap", "z", 5, 14, "xena", "yves"),
            ("put_paper", "axe", "q", 5, 10, "xena", "anna"), ("put_paper", "pen", "q", 5, 10, "xena", "yves"),
            ("sign", "pen", "anna", "anna", 20), ("sign", "ink", "anna", "dora", 20),
            ("sign", "ink", "bert", "bert", 30),
        )

    def test_standing(self):
        book = self.book()
        told = [book.standing(day) for day in (0, 13, 14, 20, 29, 30, 99999)]
        self.assertEqual(told, [[], [], ["cap"], ["cap"], ["cap"], ["cap", "ink"], ["cap", "ink"]])

    def test_calls(self):
        book = self.book()
        self.assertEqual(book.calls_on(9), [])
        # Told days of ink and pen lie behind these.
        self.assertEqual(book.calls_on(10), [("axe", None)])
        self.assertEqual(book.calls_on(12), [("axe", None), ("wax", None)])
        self.assertEqual(book.calls_on(19), [("axe", None), ("wax", None)])
        self.assertEqual(book.calls_on(20), [("axe", None), ("pen", 1), ("wax", None)])
        self.assertEqual(book.calls_on(30), [("axe", None), ("pen", 1), ("wax", None)])
        self.assertEqual(book.calls_on(91), [("axe", None), ("pen", None), ("wax", None)])

    def test_calls_of_several_new_ones(self):
        book = book_of(*HOUSE, INK)
        self.assertEqual(book.calls_on(9), [])
        self.assertEqual(book.calls_on(10), [("ink", 2)])
        book.set_rule("p", 0, ((3, ""), (5, ""), (3, "")))
        self.assertEqual(book.calls_on(10), [("ink", 3)])
        book.set_rule("p", 0, ((3, ""),) * 4)
        self.assertEqual(book.calls_on(10), [("ink", None)])

    def test_calls_behind_a_drawing_back(self):
        book = book_of(*HOUSE, INK, ("sign", "ink", "anna", "anna", 20), ("draw_back", "ink", 0, 40))
        self.assertEqual(book.calls_on(39), [])
        self.assertEqual(book.calls_on(40), [("ink", 2)])
        book.undo()
        self.assertEqual(book.calls_on(39), [("ink", 1)])

    def test_a_book_without_papers(self):
        for book in (Book(), book_of(*HOUSE)):
            self.assertEqual((book.standing(5), book.calls_on(5)), ([], []))


class Counts(BookCase):
    def test_count(self):
        book = Book()
        self.assertEqual(book.count(), 0)
        self.refused(NoDeed, book, "undo")
        self.assertEqual(book.count(), 0)
        book.add_part("p", "")
        self.refused(Taken, book, "add_part", "p", "")
        self.assertEqual(book.count(), 1)
        do(book, ("give_rank", "a", 1, "p", 0, 9), ("end_rank", 0, 9), ("end_rank", 0, 9))
        self.assertEqual(book.count(), 4)
        book.undo()
        self.assertEqual(book.count(), 3)
        all_told(book)
        book.like().undo()
        self.assertEqual(book.count(), 3)
        do(book, *[("undo",)] * 3)
        self.assertEqual(book.count(), 0)


class Like(BookCase):
    def test_the_same_in_all(self):
        for book in (Book(), small_book(), ink_book()):
            other = book.like()
            self.assertIsInstance(other, Book)
            self.assertIsNot(other, book)
            self.assertEqual(all_told(other), all_told(book))

    def test_the_two_go_on_apart(self):
        rows = (("add_part", "y", ""), ("give_rank", "b", 9, "p", 0, 9), ("give_leave", "b", "c", "p", 0, 9, 9),
                ("end_rank", 0, 40), ("end_leave", 0, 50), ("take_back", 0), ("set_rule", "q", 100, ()),
                ("drop_rule", "p", 0), ("put_paper", "new", "p", 5, 5, "a", "a"), ("sign", "pen", "bert", "bert", 40),
                ("draw_back", "ink", 1, 40), ("undo",))
        for row in rows:
            book = small_book()
            other = book.like()
            before = all_told(book)
            do(other, row)
            self.assertEqual(all_told(book), before, row)
            self.assertNotEqual(all_told(other), before, row)
            book = small_book()
            other = book.like()
            do(book, row)
            self.assertEqual(all_told(other), before, row)

    def test_both_go_on(self):
        book = small_book()
        other = book.like()
        self.assertEqual(book.give_rank("a", 1, "p", 0, 9), other.give_rank("b", 1, "p", 0, 9))
        self.assertEqual(book.house()[1][-1][1], "a")
        self.assertEqual(other.house()[1][-1][1], "b")
        self.assertEqual(book.sign("pen", "anna", "anna", 20), other.sign("pen", "bert", "bert", 20))
        self.assertEqual([book.hands_on("pen", 20), other.hands_on("pen", 20)],
                         [[(0, "anna", "anna", 20)], [(0, "bert", "bert", 20)]])

    def test_what_can_be_undone_goes_with_it(self):
        book = small_book()
        other = book.like()
        told = []
        while book.count():
            told.append(all_told(book))
            book.undo()
        for before in told:
            self.assertEqual(all_told(other), before)
            other.undo()
        self.refused(NoDeed, other, "undo")

    def test_a_book_like_one_like_another(self):
        book = small_book().like().like()
        self.assertEqual(all_told(book), all_told(small_book()))


if __name__ == "__main__":
    unittest.main()
