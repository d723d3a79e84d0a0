import copy
import unittest

from rankseals.book import Book
from rankseals.errors import BadDay, NoLeave, NoPart, NoRank, NoRule, Taken
from rankseals.houses import empty_house, is_house
from rankseals.leaves import row_of
from tests.books import BookCase, book_of, do, small_book
from tests.samples import PARTS, letters


class Parts(BookCase):
    """[13]: add_part."""

    def test_an_empty_book(self):
        book = Book()
        self.assertEqual(book.house(), empty_house())
        self.assertEqual((book.names(), book.count()), ([], 0))

    def test_parts_rise_whatever_the_order(self):
        book = Book()
        self.assertIsNone(book.add_part("r", ""))
        self.assertIsNone(book.add_part("p", "r"))
        self.assertIsNone(book.add_part("q", "p"))
        self.assertEqual(book.house(), ((("p", "r"), ("q", "p"), ("r", "")), (), (), ()))
        self.assertEqual(book.count(), 3)

    def test_taken(self):
        book = book_of()
        for within in ("", "p", "q", "z"):
            self.refused(Taken, book, "add_part", "q", within)

    def test_no_part(self):
        self.refused(NoPart, Book(), "add_part", "a", "b")
        self.refused(NoPart, book_of(), "add_part", "a", "b")

    def test_a_part_within_itself(self):
        self.refused(NoPart, book_of(), "add_part", "a", "a")
        self.refused(Taken, book_of(), "add_part", "p", "p")

    def test_taken_goes_first(self):
        self.refused(Taken, book_of(), "add_part", "p", "nopart")

    def test_parts_and_people_and_papers_have_names_by_themselves(self):
        book = book_of(("give_rank", "p", 3, "p", 0, 9), ("put_paper", "p", "p", 5, 0, "p", "q"))
        self.assertEqual(book.names(), ["p"])
        self.refused(Taken, book, "add_part", "p", "")
        self.assertIsNone(book.add_part("ink", ""))
        self.assertIsNone(book.put_paper("ink", "ink", 5, 0, "ink", "ink"))


class Ranks(BookCase):
    """[13]: give_rank and end_rank."""

    def test_numbers_from_nought_on(self):
        book = book_of()
        told = do(book, ("give_rank", "zoe", 9, "p", 0, 0), ("give_rank", "anna", 1, "s", 5, 9),
                  ("give_rank", "anna", 1, "s", 5, 9))
        self.assertEqual(told, [0, 1, 2])
        self.assertEqual(book.house()[1],
                         ((0, "zoe", 9, "p", 0, 0), (1, "anna", 1, "s", 5, 9), (2, "anna", 1, "s", 5, 9)))

    def test_ranks_and_leaves_are_numbered_by_themselves(self):
        book = book_of()
        told = do(book, ("give_rank", "a", 1, "p", 0, 9), ("give_leave", "a", "b", "p", 0, 9, 5),
                  ("give_rank", "b", 1, "p", 0, 9), ("give_rank", "c", 1, "p", 0, 9),
                  ("give_leave", "b", "a", "p", 0, 9, 5))
        self.assertEqual(told, [0, 0, 1, 2, 1])

    def test_no_part(self):
        self.refused(NoPart, book_of(), "give_rank", "a", 1, "nopart", 0, 9)
        self.refused(NoPart, Book(), "give_rank", "a", 1, "p", 0, 9)
        self.refused(NoPart, small_book(), "give_rank", "a", 1, "anna", 0, 9)

    def test_a_refused_one_takes_no_number(self):
        book = book_of(("give_rank", "a", 1, "p", 0, 9))
        self.refused(NoPart, book, "give_rank", "a", 1, "nopart", 0, 9)
        self.assertEqual(book.give_rank("a", 1, "p", 0, 9), 1)

    def test_ends(self):
        for last in (5, 6, 8, 9, 10, 99999):
            book = book_of(("give_rank", "a", 1, "p", 0, 9), ("give_rank", "b", 2, "q", 5, 9),
                           ("give_rank", "c", 3, "r", 6, 9))
            count = book.count()
            self.assertIsNone(book.end_rank(1, last))
            self.assertEqual(book.house()[1],
                             ((0, "a", 1, "p", 0, 9), (1, "b", 2, "q", 5, last), (2, "c", 3, "r", 6, 9)))
            self.assertEqual(book.count(), count + 1)

    def test_an_end_is_moved_to_and_fro(self):
        book = book_of(("give_rank", "a", 1, "p", 3, 9))
        for last in (3, 20, 4, 4):
            book.end_rank(0, last)
            self.assertEqual(book.house()[1], ((0, "a", 1, "p", 3, last),))

    def test_an_end_before_the_first_day(self):
        book = book_of(("give_rank", "a", 1, "p", 5, 9))
        for last in (0, 4):
            self.refused(BadDay, book, "end_rank", 0, last)

    def test_no_rank(self):
        book = book_of(("give_leave", "a", "b", "p", 5, 9, 5), ("give_leave", "a", "b", "p", 5, 9, 5))
        self.refused(NoRank, book, "end_rank", 0, 7)
        book.give_rank("a", 1, "p", 5, 9)
        for n in (-1, 1, 2, 999):
            self.refused(NoRank, book, "end_rank", n, 7)
            self.refused(NoRank, book, "end_rank", n, 0)

    def test_an_ended_rank_counts_for_its_days(self):
        book = book_of(("give_rank", "anna", 3, "p", 0, 9), ("set_rule", "p", 0, ((3, ""),)),
                       ("put_paper", "ink", "p", 5, 0, "xena", "yves"), ("sign", "ink", "anna", "anna", 6))
        told = []
        for last in (9, 6, 5, 0, 6, 99):
            book.end_rank(0, last)
            told.append(book.stands_on("ink", 8))
        self.assertEqual(told, [True, True, False, False, True, True])


class Leaves(BookCase):
    """[13]: give_leave, end_leave, take_back and give_again."""

    def book(self):
        return book_of(("give_leave", "a", "b", "p", 0, 9, 5), ("give_leave", "b", "c", "q", 5, 9, 6),
                       ("give_leave", "c", "a", "r", 6, 9, 7))

    def numbers(self, book):
        return [leave[0] for leave in book.house()[2]]

    def test_numbers_from_nought_on(self):
        book = book_of()
        told = do(book, ("give_leave", "z", "a", "s", 4, 4, 0), ("give_leave", "a", "z", "p", 0, 99999, 10 ** 9))
        self.assertEqual(told, [0, 1])
        self.assertEqual(book.house()[2], ((0, "z", "a", "s", 4, 4, 0), (1, "a", "z", "p", 0, 99999, 10 ** 9)))

    def test_no_part(self):
        self.refused(NoPart, self.book(), "give_leave", "a", "b", "nopart", 0, 9, 5)
        self.refused(NoPart, Book(), "give_leave", "a", "b", "p", 0, 9, 5)

    def test_a_leave_taken_back_keeps_its_number(self):
        book = self.book()
        book.take_back(2)
        self.assertEqual(book.give_leave("a", "d", "p", 0, 9, 5), 3)
        self.assertEqual(self.numbers(book), [0, 1, 3])

    def test_ends(self):
        for last in (5, 6, 9, 10, 99999):
            book = self.book()
            self.assertIsNone(book.end_leave(1, last))
            self.assertEqual(book.house()[2], ((0, "a", "b", "p", 0, 9, 5), (1, "b", "c", "q", 5, last, 6),
                                               (2, "c", "a", "r", 6, 9, 7)))
        for last in (0, 4):
            self.refused(BadDay, self.book(), "end_leave", 1, last)

    def test_no_leave(self):
        book = self.book()
        do(book, *[("give_rank", "a", 1, "p", 0, 9)] * 5)
        for n in (-1, 3, 4, 999):
            self.refused(NoLeave, book, "end_leave", n, 0)
            self.refused(NoLeave, book, "take_back", n)
            self.refused(NoLeave, book, "give_again", n)

    def test_taken_back_and_given_again(self):
        book = self.book()
        before = book.house()
        self.assertIsNone(book.take_back(1))
        self.assertEqual(book.house()[2], (before[2][0], before[2][2]))
        self.assertIsNone(book.give_again(1))
        self.assertEqual(book.house(), before)
        self.assertEqual(book.count(), len(PARTS) + 5)

    def test_taken_back_twice(self):
        book = self.book()
        book.take_back(1)
        self.refused(NoLeave, book, "take_back", 1)
        book.give_again(1)
        book.take_back(1)
        self.assertEqual(self.numbers(book), [0, 2])

    def test_given_again_without_a_taking_back(self):
        book = self.book()
        self.refused(NoLeave, book, "give_again", 1)
        do(book, ("take_back", 1), ("give_again", 1))
        self.refused(NoLeave, book, "give_again", 1)

    def test_several_taken_back(self):
        book = self.book()
        told = []
        for word, n in (("take_back", 2), ("take_back", 0), ("take_back", 1), ("give_again", 0), ("give_again", 2)):
            getattr(book, word)(n)
            told.append(self.numbers(book))
        self.assertEqual(told, [[0, 1], [1], [], [0], [0, 2]])

    def test_end_leave_of_one_that_is_taken_back(self):
        book = self.book()
        book.take_back(1)
        self.refused(BadDay, book, "end_leave", 1, 4)
        self.assertIsNone(book.end_leave(1, 30))
        self.assertEqual(self.numbers(book), [0, 2])
        self.refused(NoLeave, book, "take_back", 1)
        book.give_again(1)
        self.assertEqual(book.house()[2][1], (1, "b", "c", "q", 5, 30, 6))

    def test_a_leave_that_is_taken_back_counts_on_no_day(self):
        book = book_of(("give_rank", "anna", 3, "p", 0, 9), ("give_leave", "anna", "bert", "p", 0, 9, 5),
                       ("set_rule", "p", 0, ((3, ""),)), ("put_paper", "ink", "p", 5, 0, "xena", "yves"),
                       ("sign", "ink", "anna", "bert", 6))
        told = [book.standing(8)]
        for word in ("take_back", "give_again"):
            getattr(book, word)(0)
            told.append(book.standing(8))
            row = row_of(book.house(), ("p", 5, "xena", "yves"), "anna", "bert", 2)
            self.assertEqual(row, None if word == "take_back" else [0])
        self.assertEqual(told, [["ink"], [], ["ink"]])


class Rules(BookCase):
    """[13]: set_rule and drop_rule."""

    def test_rules_rise_whatever_the_order(self):
        book = book_of()
        rows = [("q", 5, ((3, ""),)), ("p", 50, ()), ("p", 6, ((9, "z"), (1, ""))), ("q", 0, ((1, "s"),))]
        for row in rows:
            self.assertIsNone(book.set_rule(*row))
        self.assertEqual(book.house()[3], tuple(sorted(rows)))
        self.assertTrue(is_house(book.house()))

    def test_in_the_place_of_one(self):
        book = book_of(("set_rule", "p", 5, ((3, ""),)), ("set_rule", "q", 5, ()), ("set_rule", "p", 6, ()))
        count = book.count()
        self.assertIsNone(book.set_rule("p", 5, ((1, "q"),)))
        self.assertEqual(book.house()[3], (("p", 5, ((1, "q"),)), ("p", 6, ()), ("q", 5, ())))
        book.set_rule("p", 5, ((1, "q"),))
        self.assertEqual(book.count(), count + 2)

    def test_seats_keep_their_order_and_their_empty_parts(self):
        seats = ((3, ""), (9, "z"), (3, ""), (1, "s"), (2, ""), (2, "p"))
        book = book_of(("set_rule", "p", 5, seats))
        self.assertEqual(book.house()[3], (("p", 5, seats),))

    def test_no_part(self):
        book = book_of(("set_rule", "p", 5, ((3, ""),)))
        self.refused(NoPart, book, "set_rule", "nopart", 5, ())
        self.refused(NoPart, book, "set_rule", "nopart", 5, ((1, "p"),))
        self.refused(NoPart, book, "set_rule", "p", 5, ((1, "nopart"),))
        self.refused(NoPart, book, "set_rule", "p", 5, ((1, "p"), (1, ""), (1, "q"), (1, "nopart")))
        self.refused(NoPart, book, "set_rule", "p", 9, ((1, "nopart"), (1, "p")))
        self.refused(NoPart, Book(), "set_rule", "p", 5, ())

    def test_dropped(self):
        book = book_of(("set_rule", "p", 5, ((3, ""),)), ("set_rule", "q", 5, ()), ("set_rule", "p", 6, ()))
        self.assertIsNone(book.drop_rule("p", 5))
        self.assertEqual(book.house()[3], (("p", 6, ()), ("q", 5, ())))
        self.refused(NoRule, book, "drop_rule", "p", 5)
        book.set_rule("p", 5, ())
        self.assertIsNone(book.drop_rule("p", 5))

    def test_no_rule(self):
        book = book_of(("set_rule", "p", 5, ((3, ""),)))
        for part, bound in (("p", 4), ("p", 6), ("q", 5), ("nopart", 5), ("nopart", 0)):
            self.refused(NoRule, book, "drop_rule", part, bound)
        self.refused(NoRule, Book(), "drop_rule", "p", 0)

    def test_a_rule_set_and_dropped_while_papers_lie(self):
        book = book_of(("give_rank", "anna", 3, "p", 0, 9), ("put_paper", "ink", "q", 5, 0, "xena", "yves"))
        told = [book.standing(5)]
        for row in (("set_rule", "p", 0, ((3, ""),)), ("sign", "ink", "anna", "anna", 4),
                    ("set_rule", "q", 6, ((9, ""),)), ("set_rule", "q", 5, ((4, ""),)), ("drop_rule", "q", 5),
                    ("drop_rule", "q", 6), ("set_rule", "p", 0, ((3, ""), (3, "")))):
            do(book, row)
            told.append(book.standing(5))
        self.assertEqual(told, [["ink"], [], ["ink"], ["ink"], [], ["ink"], ["ink"], []])


class Houses(BookCase):
    """[13]: house() behind every deed."""

    ROWS = (
        ("add_part", "y", "s"), ("give_rank", "gus", 9, "y", 0, 9), ("end_rank", 1, 30), ("end_leave", 2, 70),
        ("give_leave", "a", "b", "p", 0, 9, 10), ("take_back", 0), ("give_again", 2), ("take_back", 3),
        ("set_rule", "p", 0, ()), ("drop_rule", "q", 100),
        ("put_paper", "cap", "y", 0, 0, "a", "a"), ("sign", "cap", "a", "b", 4), ("draw_back", "cap", 0, 4), ("undo",),
    )

    def test_it_is_a_house_behind_every_deed(self):
        book = small_book()
        for row in self.ROWS:
            do(book, row)
            house = book.house()
            self.assertTrue(is_house(house))
            for rows in house:
                self.assertEqual(rows, tuple(sorted(rows)))

    def test_what_was_told_stays_as_it_was(self):
        book = small_book()
        told = []
        for row in self.ROWS:
            house = book.house()
            told.append((house, copy.deepcopy(house)))
            do(book, row)
        for house, kept in told:
            self.assertEqual(house, kept)
        self.assertGreater(len({repr(house) for house, _ in told}), 8)

    def test_the_small_book(self):
        self.assertEqual(small_book().house(), (
            PARTS,
            ((0, "anna", 5, "p", 0, 90), (1, "bert", 3, "q", 10, 90), (2, "cleo", 3, "q", 0, 50)),
            ((0, "anna", "dora", "p", 0, 80, 500), (1, "bert", "ezra", "q", 10, 40, 100)),
            (("p", 0, ((3, ""),)), ("q", 100, ((3, ""), (5, "p")))),
        ))

    def test_as_great_as_may_be(self):
        book = Book()
        do(book, *[("add_part", letters(at), "" if at == 7 else letters(at + 1)) for at in range(7, -1, -1)])
        self.assertEqual(do(book, *[("give_rank", letters(at), 1 + at // 3, "aa", 99999, 99999) for at in range(20)]),
                         list(range(20)))
        self.assertEqual(do(book, *[("give_leave", letters(at), letters(at + 1), "ah", 0, 99999, 10 ** 9)
                                    for at in range(16)]), list(range(16)))
        do(book, *[("set_rule", letters(at // 2), at, ((9, ""),) * 6) for at in range(10)])
        self.assertEqual([len(rows) for rows in book.house()], [8, 20, 16, 10])
        self.assertTrue(is_house(book.house()))
        row = row_of(book.house(), ("aa", 10 ** 9, "xena", "yves"), "aa", letters(16), 99999)
        self.assertEqual(row, list(range(16)))
        do(book, *[("take_back", at) for at in range(0, 16, 2)])
        self.assertEqual([row[0] for row in book.house()[2]], list(range(1, 16, 2)))


if __name__ == "__main__":
    unittest.main()
