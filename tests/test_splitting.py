import itertools
import random
import unittest

from rankseals.book import Book
from rankseals.errors import NoPaper
from rankseals.splitting import is_split, splits
from tests.books import all_told, book_of


def papers(*rows):
    """A book with papers (name, sum, day), with an asker, a part and a getter behind if they're told."""
    full = [row + ("xena", "q", "yves")[len(row) - 3:] for row in rows]
    return book_of(*[("put_paper", name, part, many, day, asker, getter)
                     for name, many, day, asker, part, getter in full])


class Splits(unittest.TestCase):
    """[17]: splits."""

    def test_two_papers(self):
        book = papers(("ink", 60, 10), ("cap", 50, 11))
        self.assertEqual(splits(book, 100, 5), [["cap", "ink"]])

    def test_more_than_two(self):
        book = papers(("ink", 40, 10), ("cap", 40, 12), ("wax", 40, 11), ("axe", 0, 13))
        self.assertEqual(splits(book, 100, 5), [["axe", "cap", "ink", "wax"]])

    def test_sums_just_below_the_bound(self):
        book = papers(("ink", 99, 10), ("cap", 99, 10), ("wax", 100, 10), ("axe", 101, 10))
        self.assertEqual(splits(book, 100, 5), [["cap", "ink"]])
        self.assertEqual(splits(book, 99, 5), [])
        self.assertEqual(splits(book, 101, 5), [["cap", "ink", "wax"]])

    def test_together_just_the_bound_and_one_less(self):
        book = papers(("ink", 60, 10), ("cap", 40, 10))
        self.assertEqual(splits(book, 100, 5), [["cap", "ink"]])
        self.assertEqual(splits(book, 101, 5), [])
        self.assertEqual(splits(book, 61, 5), [["cap", "ink"]])
        self.assertEqual(splits(book, 60, 5), [])

    def test_days_apart(self):
        book = papers(("ink", 60, 10), ("cap", 60, 14))
        self.assertEqual([splits(book, 100, days) for days in (1, 3, 4)], [[], [], []])
        self.assertEqual([splits(book, 100, days) for days in (5, 6, 999)], [[["cap", "ink"]]] * 3)
        book = papers(("ink", 60, 10), ("cap", 60, 10), ("wax", 60, 11))
        self.assertEqual(splits(book, 100, 1), [["cap", "ink"]])

    def test_the_last_one_less_the_first_one(self):
        # Each is near to the next, but the ends are too far apart.
        book = papers(("ink", 30, 10), ("cap", 30, 13), ("wax", 30, 16), ("axe", 30, 19))
        self.assertEqual(splits(book, 90, 7), [["axe", "cap", "wax"], ["cap", "ink", "wax"]])
        self.assertEqual(splits(book, 90, 6), [])
        self.assertEqual(splits(book, 120, 10), [["axe", "cap", "ink", "wax"]])
        self.assertEqual(splits(book, 120, 9), [])

    def test_other_askers(self):
        book = papers(("ink", 60, 10), ("cap", 60, 10, "zoe"), ("wax", 60, 10, "zoe"), ("axe", 60, 10, "yves"))
        self.assertEqual(splits(book, 100, 5), [["cap", "wax"]])

    def test_other_parts(self):
        book = papers(("ink", 60, 10, "xena", "q"), ("cap", 60, 10, "xena", "p"), ("wax", 60, 10, "xena", "s"),
                      ("axe", 60, 10, "xena", "q"))
        self.assertEqual(splits(book, 100, 5), [["axe", "ink"]])

    def test_other_getters_make_no_matter(self):
        book = papers(("ink", 60, 10, "xena", "q", "anna"), ("cap", 60, 10, "xena", "q", "xena"))
        self.assertEqual(splits(book, 100, 5), [["cap", "ink"]])

    def test_several_groups(self):
        book = papers(("ink", 60, 10), ("wax", 60, 10, "zoe"), ("cap", 60, 10), ("axe", 60, 12, "zoe"))
        self.assertEqual(splits(book, 100, 5), [["axe", "wax"], ["cap", "ink"]])

    def test_lists_within_others_are_not_told(self):
        book = papers(("ink", 60, 10), ("cap", 60, 11), ("wax", 60, 12))
        self.assertEqual(splits(book, 100, 3), [["cap", "ink", "wax"]])

    def test_lists_that_overlap(self):
        book = papers(("ink", 60, 10), ("cap", 60, 11), ("wax", 60, 12))
        self.assertEqual(splits(book, 100, 2), [["cap", "ink"], ["cap", "wax"]])

    def test_a_longer_window_that_does_not_pass_hides_none(self):
        book = papers(("ink", 10, 10), ("cap", 10, 11), ("wax", 60, 20), ("axe", 60, 21))
        self.assertEqual(splits(book, 100, 5), [["axe", "wax"]])

    def test_a_later_list_within_an_earlier_one(self):
        book = papers(("ink", 10, 10), ("cap", 60, 11), ("wax", 60, 12))
        self.assertEqual(splits(book, 100, 3), [["cap", "ink", "wax"]])
        self.assertEqual(splits(book, 100, 2), [["cap", "wax"]])

    def test_one_paper_alone(self):
        self.assertEqual(splits(papers(("ink", 99, 10)), 100, 5), [])
        self.assertEqual(splits(papers(("ink", 100, 10)), 100, 5), [])
        self.assertEqual(splits(Book(), 100, 5), [])

    def test_bounds_of_nought_and_one(self):
        book = papers(("ink", 0, 10), ("cap", 0, 10), ("wax", 1, 10))
        self.assertEqual(splits(book, 0, 5), [])
        self.assertEqual(splits(book, 1, 5), [])
        self.assertEqual(splits(book, 2, 5), [])

    def test_great_sums_and_days(self):
        book = papers(("ink", 10 ** 9 - 1, 0), ("cap", 1, 99999))
        self.assertEqual(splits(book, 10 ** 9, 100000), [["cap", "ink"]])
        self.assertEqual(splits(book, 10 ** 9, 99999), [])

    def test_hands_and_rules_make_no_matter(self):
        book = papers(("ink", 60, 10), ("cap", 60, 11))
        book.set_rule("q", 0, ())
        book.sign("ink", "anna", "anna", 50)
        self.assertEqual(splits(book, 100, 2), [["cap", "ink"]])
        book.undo()
        book.undo()
        book.undo()
        self.assertEqual(splits(book, 100, 2), [])


class IsSplit(unittest.TestCase):
    """[17]: is_split."""

    def book(self):
        return papers(("ink", 60, 10), ("cap", 60, 11), ("wax", 60, 12), ("axe", 60, 40))

    def test_in_any_order(self):
        for names in itertools.permutations(["cap", "ink", "wax"]):
            self.assertIs(is_split(self.book(), 100, 3, list(names)), True)
        self.assertIs(is_split(self.book(), 100, 2, ["ink", "cap"]), True)

    def test_a_list_within_another(self):
        for names in (["cap", "ink"], ["ink", "wax"], ["cap"], []):
            self.assertIs(is_split(self.book(), 100, 3, names), False)

    def test_a_list_that_goes_beyond(self):
        self.assertIs(is_split(self.book(), 100, 3, ["cap", "ink", "wax", "axe"]), False)
        self.assertIs(is_split(self.book(), 100, 2, ["cap", "ink", "wax"]), False)

    def test_one_name(self):
        for name in ("ink", "axe"):
            self.assertIs(is_split(self.book(), 100, 3, [name]), False)

    def test_unknown_names(self):
        book = self.book()
        before = all_told(book)
        for names in (["nopaper"], ["cap", "ink", "nopaper"], ["nopaper", "cap", "ink", "wax"], ["xena", "q"], [""]):
            with self.assertRaises(NoPaper) as caught:
                is_split(book, 100, 3, names)
            self.assertEqual(type(caught.exception), NoPaper)
        with self.assertRaises(NoPaper):
            is_split(Book(), 100, 3, ["cap", "ink"])
        self.assertEqual(all_told(book), before)

    def test_no_paper_goes_ahead_of_all(self):
        with self.assertRaises(NoPaper):
            is_split(self.book(), 0, 1, ["nopaper", "nopaper"])

    def test_one_name_twice(self):
        self.assertIs(is_split(self.book(), 100, 2, ["cap", "cap", "ink"]), False)
        self.assertIs(is_split(self.book(), 100, 2, ["cap", "cap"]), False)

    def test_what_is_no_list(self):
        for thing in (None, True, 5, "cap", ("cap", "ink"), ("cap", "ink", "wax"), ()):
            self.assertIs(is_split(self.book(), 100, 3, thing), False)

    def test_what_is_no_list_of_names(self):
        for thing in (None, True, 5, [], ["cap"], ("cap",), [["cap", "ink"]]):
            self.assertIs(is_split(self.book(), 100, 2, ["cap", thing]), False)
            self.assertIs(is_split(self.book(), 100, 2, ["cap", "ink", thing]), False)
            self.assertIs(is_split(self.book(), 100, 2, [thing]), False)

    def test_texts_that_are_no_names(self):
        for text in ("CAP", "cap ", "", "toolonger", "ca\tp"):
            with self.assertRaises(NoPaper):
                is_split(self.book(), 100, 2, ["cap", text])

    def test_what_was_handed_in_is_not_changed(self):
        names = ["wax", "cap", "ink"]
        self.assertIs(is_split(self.book(), 100, 3, names), True)
        self.assertEqual(names, ["wax", "cap", "ink"])


class Whole(unittest.TestCase):
    """[17] beside a look at all lists of papers, in books by a seeded chance."""

    def odd_papers(self, chance):
        many = chance.choice((0, 1, 3, 6, 7, 8))
        names = chance.sample(["a", "b", "c", "d", "e", "f", "g", "h"], many)
        return papers(*[(name, chance.choice((0, 3, 5, 8, 9)), chance.randint(0, 6), chance.choice("xxxy"),
                         chance.choice("qqqp"), chance.choice("xz")) for name in names])

    def by_words(self, book, bound, days):
        found = []
        for many in range(2, len(book.names()) + 1):
            for names in itertools.combinations(book.names(), many):
                told = [book.paper_of(name) for name in names]
                if (len({(row[0], row[2]) for row in told}) == 1 and all(row[1] < bound for row in told)
                        and sum(row[1] for row in told) >= bound
                        and max(row[4] for row in told) - min(row[4] for row in told) < days):
                    found.append(list(names))
        return sorted(some for some in found if not any(set(some) < set(other) for other in found))

    def test_beside_all_lists(self):
        chance = random.Random(1)
        seen = set()
        for _ in range(300):
            book = self.odd_papers(chance)
            bound, days = chance.choice((0, 1, 5, 9, 10, 12)), chance.choice((1, 2, 2, 3, 5, 7))
            told = splits(book, bound, days)
            self.assertEqual(told, self.by_words(book, bound, days))
            seen.add(len(told))
            for many in range(len(book.names()) + 1):
                for names in itertools.islice(itertools.combinations(book.names(), many), 12):
                    mixed = chance.sample(names, many)
                    self.assertIs(is_split(book, bound, days, mixed), list(names) in told)
        self.assertTrue({0, 1, 2, 3} <= seen)

    def test_what_is_told_is_the_askers_own(self):
        book = papers(("ink", 60, 10), ("cap", 60, 11), ("wax", 60, 12))
        before = all_told(book)
        first, second = splits(book, 100, 2), splits(book, 100, 2)
        lists = [first, second, *first, *second]
        self.assertEqual(len({id(some) for some in lists}), 6)
        first[0].append("more")
        first.append("more")
        self.assertEqual(second, [["cap", "ink"], ["cap", "wax"]])
        self.assertEqual(splits(book, 100, 2), second)
        self.assertEqual(all_told(book), before)


if __name__ == "__main__":
    unittest.main()
