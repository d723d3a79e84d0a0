import random
import unittest

from rankseals.book import Book
from rankseals.errors import NoLeave, NoPaper
from rankseals.leaning import bearing, carried, days_standing, leaning, leaning_rows
from tests.books import all_told, book_of, do, odd_book, small_book, told_by
from tests.samples import every_row

# Rank 3 is held by anna, bert and cleo; anna lets dora and fay sign, fay lets dora.
HOUSE = (
    ("give_rank", "anna", 3, "p", 0, 90), ("give_rank", "bert", 3, "p", 0, 90), ("give_rank", "cleo", 3, "p", 0, 90),
    ("give_leave", "anna", "dora", "p", 10, 20, 100), ("give_leave", "anna", "fay", "p", 10, 30, 500),
    ("give_leave", "fay", "dora", "p", 10, 40, 50), ("give_leave", "bert", "ezra", "p", 10, 40, 500),
    ("set_rule", "p", 0, ((3, ""),)), ("set_rule", "r", 0, ((3, ""), (3, ""))), ("set_rule", "z", 0, ()),
)


def paper(name, part="q", many=50, day=10):
    return "put_paper", name, part, many, day, "xena", "yves"


class LeaningCase(unittest.TestCase):
    def refused(self, kind, ask, book, *things):
        before = all_told(book)
        with self.assertRaises(kind) as caught:
            ask(book, *things)
        self.assertEqual(type(caught.exception), kind)
        self.assertEqual(all_told(book), before)


class Leaning(LeaningCase):
    """[16]: leaning and leaning_rows."""

    def test_a_paper_that_leans_on_a_leave(self):
        book = book_of(*HOUSE, paper("ink", many=100), ("sign", "ink", "anna", "dora", 12))
        self.assertEqual([leaning(book, n, 12) for n in range(4)], [["ink"], [], [], []])
        self.assertEqual([leaning_rows(book, n, 12) for n in range(4)], [[("ink", 0)], [], [], []])

    def test_one_that_has_another_row(self):
        book = book_of(*HOUSE, paper("ink", many=50), ("sign", "ink", "anna", "dora", 12))
        self.assertEqual([leaning(book, n, 12) for n in range(4)], [[], [], [], []])
        self.assertEqual([leaning_rows(book, n, 12) for n in range(4)], [[], [], [], []])
        book.take_back(1)
        self.assertEqual([leaning(book, n, 12) for n in range(4)], [["ink"], [], [], []])
        do(book, ("give_again", 1), ("take_back", 0))
        # Now both leaves of the longer row are needed.
        self.assertEqual([leaning(book, n, 12) for n in range(4)], [[], ["ink"], ["ink"], []])
        self.assertEqual([leaning_rows(book, n, 12) for n in range(4)], [[], [("ink", 0)], [("ink", 0)], []])

    def test_one_that_has_another_hand_for_the_seat(self):
        book = book_of(*HOUSE, paper("ink", many=100), ("sign", "ink", "anna", "dora", 12),
                       ("sign", "ink", "cleo", "cleo", 14))
        self.assertEqual([leaning(book, 0, day) for day in (11, 12, 13, 14, 15)], [[], ["ink"], ["ink"], [], []])
        # The hand leans all the same.
        self.assertEqual([leaning_rows(book, 0, day) for day in (11, 12, 14)], [[], [("ink", 0)], [("ink", 0)]])

    def test_one_that_does_not_stand_anyhow(self):
        book = book_of(*HOUSE, paper("ink", "r", 100), ("sign", "ink", "anna", "dora", 12))
        self.assertEqual(leaning(book, 0, 12), [])
        self.assertEqual(leaning_rows(book, 0, 12), [("ink", 0)])
        book.sign("ink", "bert", "ezra", 13)
        self.assertEqual([leaning(book, n, 13) for n in range(4)], [["ink"], [], [], ["ink"]])

    def test_several_papers(self):
        book = book_of(*HOUSE, paper("wax", many=100), paper("ink", many=100), paper("cap", many=100),
                       ("sign", "wax", "bert", "ezra", 12), ("sign", "ink", "bert", "ezra", 15),
                       ("sign", "cap", "bert", "bert", 12))
        self.assertEqual([leaning(book, 3, day) for day in (11, 12, 15)], [[], ["wax"], ["ink", "wax"]])
        self.assertEqual([leaning_rows(book, 3, day) for day in (11, 12, 15)],
                         [[], [("wax", 0)], [("ink", 0), ("wax", 0)]])

    def test_each_hand_on_its_own_day(self):
        book = book_of(*HOUSE, paper("ink", many=100), ("sign", "ink", "anna", "dora", 20))
        # The leave ends on day 20, but the hand was signed by then.
        self.assertEqual([leaning(book, 0, day) for day in (19, 20, 21, 99999)], [[], ["ink"], ["ink"], ["ink"]])
        self.assertEqual([leaning_rows(book, 0, day) for day in (19, 20, 21)], [[], [("ink", 0)], [("ink", 0)]])
        book.end_leave(0, 19)
        self.assertEqual((leaning(book, 0, 20), leaning_rows(book, 0, 20)), ([], []))

    def test_hands_without_a_row(self):
        book = book_of(*HOUSE, paper("ink", many=101), ("sign", "ink", "anna", "dora", 12),
                       ("sign", "ink", "cleo", "zoe", 12), ("sign", "ink", "xena", "xena", 12))
        self.assertEqual([leaning_rows(book, n, 12) for n in range(4)], [[], [], [], []])

    def test_hands_that_sign_for_themselves(self):
        book = book_of(*HOUSE, paper("ink"), ("sign", "ink", "anna", "anna", 12))
        self.assertEqual([leaning_rows(book, n, 12) for n in range(4)], [[], [], [], []])

    def test_hands_that_are_drawn_back(self):
        book = book_of(*HOUSE, paper("ink", many=100), ("sign", "ink", "bert", "ezra", 12), ("draw_back", "ink", 0, 15),
                       ("sign", "ink", "cleo", "cleo", 15), ("sign", "ink", "bert", "ezra", 18))
        told = [leaning_rows(book, 3, day) for day in (11, 12, 14, 15, 17, 18, 40)]
        self.assertEqual(told, [[], [("ink", 0)], [("ink", 0)], [], [], [("ink", 2)], [("ink", 2)]])
        self.assertEqual([leaning(book, 3, day) for day in (12, 14, 15, 18)], [["ink"], ["ink"], [], []])

    def test_rows_by_sides_are_none(self):
        for asker, getter, rows in (("xena", "zoe", []), ("yves", "zoe", [("ink", 0)]), ("zoe", "yves", [("ink", 0)])):
            book = book_of(("give_rank", "anna", 3, "p", 0, 90), ("give_leave", "anna", "dora", "p", 10, 20, 100),
                           ("give_leave", "anna", "yves", "p", 10, 20, 100),
                           ("give_leave", "yves", "dora", "p", 10, 20, 100), ("set_rule", "p", 0, ((3, ""),)),
                           ("put_paper", "ink", "q", 100, 10, asker, getter), ("sign", "ink", "anna", "dora", 12))
            self.assertEqual(leaning_rows(book, 0, 12), rows)
            self.assertEqual(leaning(book, 0, 12), [name for name, n in rows])

    def test_no_leave(self):
        for book, many in ((Book(), 0), (book_of(*HOUSE), 4), (small_book(), 3)):
            for n in (-1, many, many + 1, 999):
                for ask in (leaning, leaning_rows):
                    self.refused(NoLeave, ask, book, n, 12)

    def test_one_that_is_taken_back(self):
        book = book_of(*HOUSE, paper("ink", many=100), ("sign", "ink", "anna", "dora", 12), ("take_back", 0))
        self.assertEqual((leaning(book, 0, 12), leaning_rows(book, 0, 12)), ([], []))
        book.give_again(0)
        self.assertEqual((leaning(book, 0, 12), leaning_rows(book, 0, 12)), (["ink"], [("ink", 0)]))

    def test_a_paper_ahead_of_its_day(self):
        book = book_of(*HOUSE, paper("ink", many=100, day=12), ("sign", "ink", "anna", "dora", 12))
        self.assertEqual([leaning(book, 0, day) for day in (0, 11, 12)], [[], [], ["ink"]])


class Carried(LeaningCase):
    """[16]: carried."""

    def test_all_leaves_that_are_not_taken_back(self):
        book = book_of(*HOUSE, paper("wax", many=100), paper("ink", many=100), paper("cap", many=100),
                       ("sign", "wax", "bert", "ezra", 12), ("sign", "ink", "bert", "ezra", 15),
                       ("sign", "cap", "anna", "dora", 12))
        self.assertEqual(carried(book, 11), [(0, 0), (1, 0), (2, 0), (3, 0)])
        self.assertEqual(carried(book, 12), [(0, 1), (1, 0), (2, 0), (3, 1)])
        self.assertEqual(carried(book, 15), [(0, 1), (1, 0), (2, 0), (3, 2)])
        book.take_back(0)
        self.assertEqual(carried(book, 15), [(1, 0), (2, 0), (3, 2)])
        do(book, *[("take_back", n) for n in (1, 2, 3)])
        self.assertEqual(carried(book, 15), [])

    def test_books_without_leaves_or_papers(self):
        self.assertEqual(carried(Book(), 5), [])
        self.assertEqual(carried(book_of(*HOUSE), 5), [(0, 0), (1, 0), (2, 0), (3, 0)])


class Bearing(LeaningCase):
    """[16]: bearing."""

    def test_each_hand_is_needed(self):
        book = book_of(*HOUSE, paper("ink", "r"), ("sign", "ink", "anna", "anna", 12),
                       ("sign", "ink", "bert", "bert", 12))
        self.assertEqual(bearing(book, "ink", 12), [0, 1])

    def test_one_may_be_left_out(self):
        book = book_of(*HOUSE, paper("ink", "r"), ("sign", "ink", "anna", "anna", 12),
                       ("sign", "ink", "bert", "bert", 12), ("sign", "ink", "cleo", "cleo", 14))
        self.assertEqual([bearing(book, "ink", day) for day in (11, 12, 13, 14)], [[], [0, 1], [0, 1], []])

    def test_one_is_needed_and_others_may_be_left_out(self):
        book = book_of(*HOUSE, ("give_rank", "gus", 9, "p", 0, 90), ("set_rule", "p", 0, ((3, ""), (9, ""))),
                       paper("ink"), ("sign", "ink", "zoe", "zoe", 12), ("sign", "ink", "anna", "anna", 12),
                       ("sign", "ink", "bert", "bert", 12), ("sign", "ink", "gus", "gus", 12))
        self.assertEqual(bearing(book, "ink", 12), [3])

    def test_hands_of_sides_are_no_help(self):
        for side in ("xena", "yves"):
            book = book_of(*HOUSE, ("give_rank", side, 3, "p", 0, 90), paper("ink", "r"),
                           ("sign", "ink", "anna", "anna", 12), ("sign", "ink", "bert", "bert", 12),
                           ("sign", "ink", side, side, 12))
            self.assertEqual(bearing(book, "ink", 12), [0, 1])

    def test_numbers_not_places(self):
        book = book_of(*HOUSE, paper("ink", "r"), ("sign", "ink", "anna", "anna", 12), ("draw_back", "ink", 0, 12),
                       ("sign", "ink", "zoe", "zoe", 12), ("sign", "ink", "bert", "bert", 12),
                       ("sign", "ink", "cleo", "cleo", 12))
        self.assertEqual(bearing(book, "ink", 12), [2, 3])

    def test_where_it_does_not_stand(self):
        book = book_of(*HOUSE, paper("ink", "r"), ("sign", "ink", "anna", "anna", 12))
        self.assertEqual([bearing(book, "ink", day) for day in (0, 10, 12, 99)], [[], [], [], []])

    def test_a_paper_without_seats(self):
        book = book_of(*HOUSE, paper("ink", "z"), ("sign", "ink", "anna", "anna", 12))
        self.assertEqual([bearing(book, "ink", day) for day in (0, 10, 12)], [[], [], []])

    def test_no_paper(self):
        self.refused(NoPaper, bearing, Book(), "ink", 12)
        self.refused(NoPaper, bearing, small_book(), "nopaper", 12)


class DaysStanding(LeaningCase):
    """[16]: days_standing."""

    def test_no_stretch(self):
        book = book_of(*HOUSE, paper("ink"))
        self.assertEqual(days_standing(book, "ink"), [])
        book.sign("ink", "zoe", "zoe", 12)
        self.assertEqual(days_standing(book, "ink"), [])

    def test_one_that_goes_on_for_ever(self):
        book = book_of(*HOUSE, paper("ink"), ("sign", "ink", "anna", "anna", 12))
        self.assertEqual(days_standing(book, "ink"), [(12, None)])
        book.sign("ink", "bert", "bert", 50)
        self.assertEqual(days_standing(book, "ink"), [(12, None)])

    def test_from_the_papers_own_day_on(self):
        book = book_of(*HOUSE, paper("ink", "z"), paper("wax", day=0), ("sign", "wax", "anna", "anna", 0))
        self.assertEqual(days_standing(book, "ink"), [(10, None)])
        self.assertEqual(days_standing(book, "wax"), [(0, None)])

    def test_one_that_is_ended_by_a_drawing_back(self):
        book = book_of(*HOUSE, paper("ink"), ("sign", "ink", "anna", "anna", 12), ("draw_back", "ink", 0, 15))
        self.assertEqual(days_standing(book, "ink"), [(12, 14)])

    def test_one_day_and_none(self):
        book = book_of(*HOUSE, paper("ink"), ("sign", "ink", "anna", "anna", 12), ("draw_back", "ink", 0, 13))
        self.assertEqual(days_standing(book, "ink"), [(12, 12)])
        book = book_of(*HOUSE, paper("ink"), ("sign", "ink", "anna", "anna", 12), ("draw_back", "ink", 0, 12))
        self.assertEqual(days_standing(book, "ink"), [])

    def test_several_on_days_far_apart(self):
        book = book_of(*HOUSE, ("end_rank", 0, 99999), paper("ink", day=0), ("sign", "ink", "anna", "anna", 3),
                       ("draw_back", "ink", 0, 5), ("sign", "ink", "anna", "anna", 40000),
                       ("draw_back", "ink", 1, 70000), ("sign", "ink", "anna", "anna", 99999))
        self.assertEqual(days_standing(book, "ink"), [(3, 4), (40000, 69999), (99999, None)])

    def test_each_is_as_long_as_can_be(self):
        # Another hand comes on the very day on which the first one goes, or ahead of it.
        book = book_of(*HOUSE, paper("ink"), ("sign", "ink", "anna", "anna", 12), ("draw_back", "ink", 0, 15),
                       ("sign", "ink", "bert", "bert", 15), ("sign", "ink", "cleo", "cleo", 20),
                       ("draw_back", "ink", 1, 22))
        self.assertEqual(days_standing(book, "ink"), [(12, None)])
        book.draw_back("ink", 2, 30)
        self.assertEqual(days_standing(book, "ink"), [(12, 29)])

    def test_a_day_between(self):
        book = book_of(*HOUSE, paper("ink"), ("sign", "ink", "anna", "anna", 12), ("draw_back", "ink", 0, 15),
                       ("sign", "ink", "bert", "bert", 16))
        self.assertEqual(days_standing(book, "ink"), [(12, 14), (16, None)])

    def test_by_the_house_as_it_is(self):
        book = book_of(*HOUSE, paper("ink", many=100), ("sign", "ink", "anna", "dora", 12))
        told = [days_standing(book, "ink")]
        for row in (("take_back", 0), ("give_again", 0), ("end_rank", 0, 11), ("set_rule", "q", 0, ())):
            do(book, row)
            told.append(days_standing(book, "ink"))
        self.assertEqual(told, [[(12, None)], [], [(12, None)], [], [(10, None)]])

    def test_no_paper(self):
        self.refused(NoPaper, days_standing, Book(), "ink")
        self.refused(NoPaper, days_standing, small_book(), "nopaper")


def all_leaning(book, days):
    """All that [16] tells of a book."""
    told = {}
    for day in days:
        told["carried", day] = carried(book, day)
        for n in range(8):
            told["leaning", n, day] = told_or_refused(leaning, book, n, day)
            told["leaning_rows", n, day] = told_or_refused(leaning_rows, book, n, day)
        for name in book.names():
            told["bearing", name, day] = bearing(book, name, day)
    for name in book.names():
        told["days_standing", name] = days_standing(book, name)
    return told


def told_or_refused(ask, *things):
    try:
        return ask(*things)
    except NoLeave:
        return "NoLeave"


class Whole(unittest.TestCase):
    """[16] beside the plain words, in books by a seeded chance."""

    DAYS = (2, 5, 8, 12)

    def test_leaves_by_taking_them_back(self):
        chance = random.Random(1)
        leans = rows = 0
        for _ in range(60):
            book, plain = odd_book(chance, 50)
            given = plain.state()["leaves"]
            for n, leave in enumerate(given):
                for day in self.DAYS:
                    found, found_rows = leaning(book, n, day), leaning_rows(book, n, day)
                    expected, expected_rows = self.by_words(book, n, day, leave["back"])
                    self.assertEqual((found, found_rows), (expected, expected_rows))
                    leans += len(found)
                    rows += len(found_rows)
            for day in self.DAYS:
                expected = [(n, len(leaning(book, n, day))) for n, leave in enumerate(given) if not leave["back"]]
                self.assertEqual(carried(book, day), expected)
        self.assertGreater(leans, 20)
        self.assertGreater(rows, 20)

    def by_words(self, book, n, day, is_back):
        if is_back:
            return [], []

        def rows():
            house = book.house()
            return [(name, hand[0]) for name in book.names() for hand in book.hands_on(name, day)
                    if every_row(house, book.paper_of(name)[:4], *hand[1:])]

        standing, with_rows = book.standing(day), rows()
        book.take_back(n)
        left, left_rows = book.standing(day), rows()
        book.undo()
        return ([name for name in standing if name not in left], [row for row in with_rows if row not in left_rows])

    def test_hands_by_drawing_them_back_and_days_one_by_one(self):
        chance = random.Random(2)
        borne = stretches = 0
        for _ in range(40):
            book, plain = odd_book(chance, 50)
            for name in book.names():
                last = max(plain.papers()[name]["told"])
                days = [day for day in range(last + 3) if plain.stands_on(name, day)]
                self.assertEqual(self.days_in(days_standing(book, name), last + 3), days)
                stretches += len(days_standing(book, name))
                # A hand drawn back on its own day lies on no day.
                expected = []
                for hand in book.hands_on(name, last):
                    other = book.like()
                    other.draw_back(name, hand[0], last)
                    if book.stands_on(name, last) and not other.stands_on(name, last):
                        expected.append(hand[0])
                self.assertEqual(bearing(book, name, last), expected)
                borne += len(expected)
        self.assertGreater(borne, 20)
        self.assertGreater(stretches, 30)

    def days_in(self, stretches, end):
        """The days of stretches below an end; that these are as long as can be."""
        for (_, last), (first, _) in zip(stretches, stretches[1:]):
            self.assertLess(last + 1, first)
        return [day for first, last in stretches for day in range(first, end if last is None else last + 1)]

    def test_none_of_these_changes_the_book(self):
        chance = random.Random(3)
        for _ in range(10):
            book, plain = odd_book(chance, 50)
            before = all_told(book, self.DAYS)
            first = all_leaning(book, self.DAYS)
            self.assertEqual(all_told(book, self.DAYS), before)
            self.assertEqual(all_leaning(book, self.DAYS), first)
            lists = [told for told in (*first.values(), *all_leaning(book, self.DAYS).values()) if told != "NoLeave"]
            for told in lists:
                told.append("more")
            self.assertEqual(all_told(book, self.DAYS), before)
            self.assertEqual(told_by(book, ("undo",)), None)
            do(book, plain.deeds[-1])
            self.assertEqual(all_told(book, self.DAYS), before)

    def test_told_lists_are_unlike(self):
        book = small_book()
        told = [all_leaning(book, self.DAYS) for _ in range(2)]
        self.assertEqual(told[0], told[1])
        lists = [some for one in told for some in one.values() if isinstance(some, list)]
        self.assertEqual(len({id(some) for some in lists}), len(lists))


if __name__ == "__main__":
    unittest.main()
