"""The names of the interface are there, each with as many arguments as told."""

import importlib
import inspect
import unittest

from rankseals.book import Book

FILES = {
    "words": {"is_name": 1}, "houses": {"is_house": 1, "empty_house": 0}, "parts": {"parts_over": 2},
    "ranks": {"rank_of": 4, "holders_of": 4}, "rules": {"seats_of": 3},
    "leaves": {"row_of": 5, "signers_of": 4, "leaves_in_all": 5}, "widest": {"most_of": 6}, "rowcheck": {"is_row": 6},
    "fitting": {"may_fill": 4}, "filling": {"filled": 3, "stands": 3, "open_seats": 3},
    "fillcheck": {"shows_filled": 4}, "further": {"more_for": 4}, "furthercheck": {"shows_more": 5},
    "leaning": {"leaning": 3, "leaning_rows": 3, "carried": 2, "bearing": 3, "days_standing": 2},
    "splitting": {"splits": 3, "is_split": 4}, "reading": {"read_row": 1}, "sheet": {"run": 1},
}
METHODS = {
    "add_part": 2, "give_rank": 5, "give_leave": 6, "end_rank": 2, "end_leave": 2, "take_back": 1, "give_again": 1,
    "set_rule": 3, "drop_rule": 2, "house": 0, "put_paper": 6, "sign": 4, "draw_back": 3, "undo": 0, "names": 0,
    "paper_of": 1, "hands_on": 2, "stands_on": 2, "filled_on": 2, "more_on": 2, "standing": 1, "calls_on": 1,
    "count": 0, "like": 0,
}


class Interface(unittest.TestCase):
    def test_files(self):
        for place, names in FILES.items():
            module = importlib.import_module("rankseals." + place)
            for name, many in names.items():
                found = getattr(module, name)
                self.assertEqual(len(inspect.signature(found).parameters), many, name)
                self.assertEqual(found.__module__, "rankseals." + place, name)

    def test_the_book(self):
        self.assertEqual(len(inspect.signature(Book).parameters), 0)
        for name, many in METHODS.items():
            self.assertEqual(len(inspect.signature(getattr(Book(), name)).parameters), many, name)


if __name__ == "__main__":
    unittest.main()
