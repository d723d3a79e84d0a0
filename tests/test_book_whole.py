"""Promises of [1] and [2] as far as they touch the book, over rows of deeds by a seeded chance."""

import copy
import random
import unittest

from rankseals.book import Book
from rankseals.houses import is_house
from rankseals.leaves import row_of
from rankseals.rowcheck import is_row
from tests.books import (
    Plain, all_told, book_of, check_told, do, odd_begin, odd_book, odd_deeds, small_book, told_by,
)
from tests.samples import fits, seats_by_words

DAYS = (0, 2, 3, 5, 7, 9, 12)


class Deeds(unittest.TestCase):
    def test_each_deed_tells_what_the_plain_book_tells(self):
        chance = random.Random(1)
        refused, told = set(), set()
        for _ in range(60):
            book, plain = Book(), Plain()
            for row in odd_begin(chance) + odd_deeds(chance, 60):
                expected = plain.do(*row)
                self.assertEqual(told_by(book, row), expected, row)
                self.assertEqual(book.house(), plain.house(), row)
                self.assertEqual(book.count(), len(plain.deeds))
                self.assertTrue(is_house(book.house()))
                (refused if isinstance(expected, str) else told).add((row[0], expected))
        self.assertEqual({name for _, name in refused},
                         {"Taken", "NoPart", "NoRank", "NoLeave", "NoRule", "NoPaper", "NoHand", "BadDay", "Twice"})
        self.assertEqual(len({word for word, _ in told}), 13)

    def test_what_is_asked_is_told_as_by_the_plain_book(self):
        chance = random.Random(2)
        stand, call = set(), set()
        for _ in range(40):
            book, plain = odd_book(chance, chance.choice((20, 40, 60)))
            check_told(self, book, plain, DAYS)
            stand.update(len(book.standing(day)) for day in DAYS)
            call.update(many for day in DAYS for _, many in book.calls_on(day))
        self.assertTrue({0, 1, 2} <= stand)
        self.assertTrue({None, 1, 2} <= call)


class MadeAnew(unittest.TestCase):
    """[1]: the book tells behind any row of deeds, some undone, what a book made anew tells."""

    def test_a_book_made_anew_of_the_deeds_that_are_left(self):
        chance = random.Random(3)
        for _ in range(60):
            book, plain = odd_book(chance, 50)
            for _ in range(chance.randint(0, 8)):
                book.undo()
                plain.do("undo")
            anew = Book()
            do(anew, *plain.deeds)
            self.assertEqual(all_told(book, DAYS), all_told(anew, DAYS))
            for row in odd_deeds(chance, 10, 11):
                self.assertEqual(told_by(book, row), told_by(anew, row))
            self.assertEqual(all_told(book, DAYS), all_told(anew, DAYS))

    def test_undone_one_by_one(self):
        chance = random.Random(4)
        for _ in range(6):
            book, plain = odd_book(chance, 50)
            while plain.deeds:
                book.undo()
                plain.do("undo")
                anew = Book()
                do(anew, *plain.deeds)
                self.assertEqual(all_told(book, DAYS), all_told(anew, DAYS))

    def test_books_alike_go_on_alike(self):
        chance = random.Random(5)
        for _ in range(20):
            book, plain = odd_book(chance, 40)
            other = book.like()
            before = all_told(book, DAYS)
            rows = odd_deeds(chance, 20, 11)
            told = [told_by(other, row) for row in rows]
            self.assertEqual(all_told(book, DAYS), before)
            self.assertEqual([told_by(book, row) for row in rows], told)
            self.assertEqual(all_told(book, DAYS), all_told(other, DAYS))


class Leaves(unittest.TestCase):
    """[1]: a leave taken back and given again: all is as it was."""

    def test_taken_back_and_given_again(self):
        chance = random.Random(6)
        fell = 0
        for _ in range(60):
            book, plain = odd_book(chance, 60)
            before = all_told(book, DAYS)
            del before["count"]
            for leave in book.house()[2]:
                book.take_back(leave[0])
                self.assertNotIn(leave, book.house()[2])
                for day in DAYS:
                    # A leave less lets no paper stand that didn't.
                    self.assertTrue(set(book.standing(day)) <= set(before["standing", day]))
                    fell += len(before["standing", day]) - len(book.standing(day))
                book.give_again(leave[0])
                after = all_told(book, DAYS)
                del after["count"]
                self.assertEqual(after, before)
        self.assertGreater(fell, 10)


class Hands(unittest.TestCase):
    """[1]: a paper stands just where its hands, each on its own day, fill all its seats, by rows without sides."""

    def test_each_hand_of_a_filling_has_a_row_and_no_side_comes_into_any(self):
        chance = random.Random(7)
        seen = 0
        for _ in range(80):
            book, plain = odd_book(chance, 60)
            house = book.house()
            for name in book.names():
                *paper, first = book.paper_of(name)
                for day in DAYS:
                    seen += self.check(house, tuple(paper), book, name, day)
        self.assertGreater(seen, 100)

    def check(self, house, paper, book, name, day):
        hands = {hand[0]: hand[1:] for hand in book.hands_on(name, day)}
        self.assertEqual(len({hand[0] for hand in hands.values()}), len(hands))
        self.assertEqual(len({hand[1] for hand in hands.values()}), len(hands))
        filling, cover = book.filled_on(name, day)
        seats = seats_by_words(house, paper)
        leaves = {leave[0]: leave for leave in house[2]}
        for seat, n in filling:
            holder, signer, when = hands[n]
            self.assertTrue(fits(house, paper, seats[seat], hands[n]))
            row = row_of(house, paper, holder, signer, when)
            self.assertTrue(is_row(house, paper, holder, signer, when, row))
            people = {holder, signer} | {who for number in row for who in leaves[number][1:3]}
            self.assertFalse(people & set(paper[2:]))
        stands = book.stands_on(name, day)
        self.assertIs(stands, len(filling) == len(seats) and day >= book.paper_of(name)[4])
        return len(filling)


def lists_in(thing):
    """All lists in a told thing, itself too."""
    found = [thing] if isinstance(thing, list) else []
    if isinstance(thing, (list, tuple)):
        for inner in thing:
            found += lists_in(inner)
    return found


class Own(unittest.TestCase):
    """[2]: what is told is the asker's own; what is handed in is not changed nor kept."""

    def test_told_lists_changed_by_the_asker(self):
        chance = random.Random(8)
        for book in [small_book()] + [odd_book(chance, 60)[0] for _ in range(20)]:
            first, second = all_told(book), all_told(book)
            kept = copy.deepcopy(second)
            self.assertEqual(first, second)
            lists = [some for told in (first, second) for thing in told.values() for some in lists_in(thing)]
            self.assertEqual(len({id(some) for some in lists}), len(lists))
            for thing in first.values():
                for some in lists_in(thing):
                    some.append("more")
            self.assertEqual(second, kept)
            self.assertEqual(all_told(book), kept)

    def test_nothing_done_later_changes_what_was_told(self):
        chance = random.Random(9)
        for _ in range(10):
            book, plain = odd_book(chance, 40)
            told = all_told(book, DAYS)
            kept = copy.deepcopy(told)
            for row in odd_deeds(chance, 20, 11):
                told_by(book, row)
            self.assertEqual(told, kept)

    def test_nothing_but_tuples_texts_and_numbers_in_a_house(self):
        def check(thing):
            self.assertIn(type(thing), (tuple, str, int))
            if isinstance(thing, tuple):
                for inner in thing:
                    check(inner)

        check(small_book().house())
        check(small_book().paper_of("ink"))

    def test_a_refusal_changes_nothing(self):
        chance = random.Random(10)
        refused = 0
        for _ in range(15):
            book, plain = odd_book(chance, 40)
            for row in odd_deeds(chance, 25, 11):
                before = all_told(book, DAYS)
                if isinstance(told_by(book, row), str):
                    refused += 1
                    self.assertEqual(all_told(book, DAYS), before, row)
        self.assertGreater(refused, 50)

    def test_asks_are_no_deeds(self):
        book = small_book()
        count = book.count()
        all_told(book)
        self.assertEqual(book.count(), count)

    def test_books_know_nothing_of_one_another(self):
        first, second = Book(), Book()
        first.add_part("p", "")
        self.assertEqual(second.count(), 0)
        self.assertEqual(second.house(), ((), (), (), ()))
        second.add_part("p", "")
        first.put_paper("ink", "p", 5, 0, "a", "b")
        self.assertEqual(second.names(), [])

    def test_what_was_told_may_be_handed_in_again(self):
        book = small_book()
        other = book_of(*[("set_rule", *rule) for rule in book.house()[3]])
        self.assertEqual(other.house()[3], book.house()[3])


if __name__ == "__main__":
    unittest.main()
